/- What a desk's readers do: Read, Take, Back. A row of texts searched: slices.IndexFunc and ContainsFunc with a closure, Index and Contains. slices.Contains of texts; an order marked with its accounts; clash.Clash. Desk.Do: what is needed ahead. Desk.Do: its region that lays an event down. -/
import Derived.Test.YtlanhclgbkhdlaaGreatQ16
import Derived.Test.YtlanhclgbkhdlaaGreatQ10
import Derived.Test.YtlanhclgbkhdlaaGreatQ09
import Derived.Sort.Walk0
import Derived.Test.YtlanhclgbkhdlaaGreatQ11
import Derived.Test.YtlanhclgbkhdlaaGreatQ08
namespace Go.Proofs.YtlanhclgbkhdlaaGreat
open Go.RowKit Go.My Go.Maps
set_option linter.unusedSimpArgs false
set_option linter.unusedVariables false
attribute [local go_sem ↓] Go.wp_at_zero Go.wp_at_succ

/-- what Read answers, and the readers then -/
def readE (g : List UInt8 → Option Rdr) (k : Nat) (nm ac : List UInt8) : Int := if nameB nm = false ∨ nameB ac = false then 1 else if (g nm).isSome then 7 else if 10 ≤ k then 5 else 0
def setG (g : List UInt8 → Option Rdr) (nm : List UInt8) (r : Rdr) : List UInt8 → Option Rdr := fun j => if j = nm then some r else g j
def readG (g : List UInt8 → Option Rdr) (k : Nat) (nm : List UInt8) (a : ByteArray) : List UInt8 → Option Rdr := if readE g k nm a.data.toList = 0 then setG g nm (a, 0) else g
def readK (g : List UInt8 → Option Rdr) (k : Nat) (nm : List UInt8) (a : ByteArray) : Nat := if readE g k nm a.data.toList = 0 then k + 1 else k
theorem eqlMap (m : Nat) (w : World) : (binOp .eql 75 (.map (some m)) (.map none)).run Tryz.prog w = .ok (.bool false) w := by kernel_rfl
section
variable {d : Dp} {f : List UInt8 → Option Value} {N : Nat} {b : Bk} {E : List UInt8 → List Ev} {k : Nat} {g : List UInt8 → Option Rdr}
theorem read_none {g : List UInt8 → Option Rdr} {k : Nat} {nm : List UInt8} {a : ByteArray} {n : Int} (h : readE g k nm a.data.toList = n) (hn : n ≠ 0) : readG g k nm a = g ∧ readK g k nm a = k := by
  unfold readG readK
  rw [if_neg (by omega), if_neg (by omega)]
  exact ⟨rfl, rfl⟩
set_option maxRecDepth 100000 in
set_option maxHeartbeats 1000000 in
theorem dread_any (s a : ByteArray) (w : World) (h : DkS w d f N b E k g) (hs : s.size ≤ maxLen) (ha : a.size ≤ maxLen) (hk : k ≤ 1000000) :
    Calls Tryz.prog 15 #[.pointer (some ⟨d.p, 0, none⟩), .string s, .string a] w fun e w' => e = .returned (.int .i64 (readE g k s.data.toList a.data.toList)) ∧ DkS w' d f N b E (readK g k s.data.toList a) (readG g k s.data.toList a) ∧ Fr (At1 d.r) w w' := by
  have HN1 := Lib.hid (fun W => name_any s W hs)
  have HN2 := Lib.hid (fun W => name_any a W ha)
  have HD := Lib.hid h
  have HS := Lib.hid hs
  have x2 := h.blk.cell 2
  simp only [List.getElem?_toArray, List.getElem?_cons_zero, List.getElem?_cons_succ] at x2
  by_cases h1 : nameB s.data.toList = false
  · have HE : Hid (readE g k s.data.toList a.data.toList = 1) := by show _ = _; unfold readE; rw [if_pos (.inl h1)]
    obtain ⟨e1, e2⟩ := read_none HE.out (by decide)
    rw [HE.out, e1, e2]
    rw [h1] at HN1
    clear h h1 e1 e2 hs
    go_enter Tryz.func15, Tryz.ntmps15
    go_wp2_with fail
    refine (HN1.out _).mono ?_
    rintro e w1 ⟨rfl, hb1⟩
    have HF := Lib.hid (Fr.of_below hb1 No)
    clear hb1
    go_wp2
    go_ret
    exact ⟨rfl, HD.out.no HF.out, HF.out.mono fun _ _ h => False.elim h⟩
  have h1 : nameB s.data.toList = true := by simpa using h1
  rw [h1] at HN1
  by_cases h2 : nameB a.data.toList = false
  · have HE : Hid (readE g k s.data.toList a.data.toList = 1) := by show _ = _; unfold readE; rw [if_pos (.inr h2)]
    obtain ⟨e1, e2⟩ := read_none HE.out (by decide)
    rw [HE.out, e1, e2]
    rw [h2] at HN2
    clear h h1 h2 e1 e2 hs
    go_enter Tryz.func15, Tryz.ntmps15
    go_wp2_with fail
    refine (HN1.out _).mono ?_
    rintro e w1 ⟨rfl, hb1⟩
    go_wp2_with fail
    refine (HN2.out _).mono ?_
    rintro e w2 ⟨rfl, hb2⟩
    have HF := Lib.hid ((Fr.of_below hb1 No).trans (Fr.of_below hb2 No))
    clear hb1 hb2
    go_wp2
    go_ret
    exact ⟨rfl, HD.out.no HF.out, HF.out.mono fun _ _ h => False.elim h⟩
  have h2 : nameB a.data.toList = true := by simpa using h2
  rw [h2] at HN2
  have hl := fun (W : World) (hW : Fr No w W) => ((h.rd.fr (w' := W) hW (fun h => h)).look_ok Tryz.underlying9 Tryz.underlying75 (zeroR W) s hs)
  by_cases h3 : (g s.data.toList).isSome = true
  · obtain ⟨⟨a0, t0⟩, hg⟩ := Option.isSome_iff_exists.1 h3
    have HE : Hid (readE g k s.data.toList a.data.toList = 7) := by show _ = _; unfold readE; rw [if_neg (by rw [h1, h2]; simp), if_pos h3]
    obtain ⟨e1, e2⟩ := read_none HE.out (by decide)
    rw [HE.out, e1, e2]
    rw [rdT_some hg] at hl
    simp only [Option.getD_some, Option.isSome_some] at hl
    clear h h1 h2 e1 e2 hs h3 hg
    go_enter Tryz.func15, Tryz.ntmps15
    go_wp2_with fail
    refine (HN1.out _).mono ?_
    rintro e w1 ⟨rfl, hb1⟩
    go_wp2_with fail
    refine (HN2.out _).mono ?_
    rintro e w2 ⟨rfl, hb2⟩
    have HF := Lib.hid ((Fr.of_below hb1 No).trans (Fr.of_below hb2 No))
    have x3 : w2.cell? ⟨d.p, 2, none⟩ = some (.map (some d.r)) := HF.out.cell_some x2 (fun h => h)
    have hl2 := hl _ HF.out
    clear hb1 hb2 hl
    go_wp2
    go_ret
    exact ⟨rfl, HD.out.no (HF.out.alloc _), (HF.out.alloc _).mono fun _ _ h => False.elim h⟩
  have hg : g s.data.toList = none := by
    cases hg : g s.data.toList with
    | none => rfl
    | some r => rw [hg] at h3; exact absurd rfl h3
  rw [rdT_none hg] at hl
  simp only [Option.getD_none, Option.isSome_none] at hl
  have hln := fun (W : World) (hW : Fr No w W) (ty : TypeId) => ((h.rd.fr (w' := W) hW (fun h => h)).len Tryz.underlying75 ty)
  by_cases h4 : 10 ≤ k
  · have HE : Hid (readE g k s.data.toList a.data.toList = 5) := by show _ = _; unfold readE; rw [if_neg (by rw [h1, h2]; simp), if_neg h3, if_pos h4]
    obtain ⟨e1, e2⟩ := read_none HE.out (by decide)
    rw [HE.out, e1, e2]
    have hd : decide ((10 : Int) ≤ (k : Int)) = true := decide_eq_true (by omega)
    clear h h1 h2 e1 e2 hs h3 hg
    go_enter Tryz.func15, Tryz.ntmps15
    go_wp2_with fail
    refine (HN1.out _).mono ?_
    rintro e w1 ⟨rfl, hb1⟩
    go_wp2_with fail
    refine (HN2.out _).mono ?_
    rintro e w2 ⟨rfl, hb2⟩
    have HF := Lib.hid ((Fr.of_below hb1 No).trans (Fr.of_below hb2 No))
    have x3 : w2.cell? ⟨d.p, 2, none⟩ = some (.map (some d.r)) := HF.out.cell_some x2 (fun h => h)
    have hl2 := hl _ HF.out
    have hl3 := hln _ (HF.out.alloc (.cells #[.string ByteArray.empty, .int .i64 0] 80))
    have hlt := World.block_lt_of_cell? _ _ x3
    simp only at hlt
    clear hb1 hb2 hl hln
    go_wp2
    go_ret
    exact ⟨rfl, HD.out.no (HF.out.alloc _), (HF.out.alloc _).mono fun _ _ h => False.elim h⟩
  have HE : Hid (readE g k s.data.toList a.data.toList = 0) := by show _ = _; unfold readE; rw [if_neg (by rw [h1, h2]; simp), if_neg h3, if_neg h4]
  have HGK : Hid (readG g k s.data.toList a = setG g s.data.toList (a, 0) ∧ readK g k s.data.toList a = k + 1) := by
    refine ⟨?_, ?_⟩
    · unfold readG; rw [if_pos HE.out]
    · unfold readK; rw [if_pos HE.out]
  rw [HE.out, HGK.out.1, HGK.out.2]
  have hd : decide ((10 : Int) ≤ (k : Int)) = false := decide_eq_false (by omega)
  have hd2 : ¬ ((10 : Int) ≤ (k : Int)) := by omega
  have HTK : Hid (∀ nm r, setG g s.data.toList (a, 0) nm = some r → r.1.size ≤ maxLen ∧ r.2 ≤ (E r.1.data.toList).length) := fun nm r hr => by
    unfold setG at hr
    split at hr
    · injection hr with hr
      subst hr
      exact ⟨ha, Nat.zero_le _⟩
    · exact h.tk nm r hr
  have HCT : Hid (cnt (rdT g) k s.data.toList = k + 1) := by show _ = _; unfold cnt; rw [rdT_none hg]; rfl
  clear h h1 h2 hs h3 hg h4 HE HGK
  go_enter Tryz.func15, Tryz.ntmps15
  go_wp2_with fail
  refine (HN1.out _).mono ?_
  rintro e w1 ⟨rfl, hb1⟩
  go_wp2_with fail
  refine (HN2.out _).mono ?_
  rintro e w2 ⟨rfl, hb2⟩
  have HF := Lib.hid ((Fr.of_below hb1 No).trans (Fr.of_below hb2 No))
  have x3 : w2.cell? ⟨d.p, 2, none⟩ = some (.map (some d.r)) := HF.out.cell_some x2 (fun h => h)
  have hl2 := hl _ HF.out
  have hl3 := hln _ (HF.out.alloc (.cells #[.string ByteArray.empty, .int .i64 0] 80))
  have hlt := World.block_lt_of_cell? _ _ x3
  simp only at hlt
  obtain ⟨w3, hrun, ht3, hf3⟩ := (HD.out.rd.fr (HF.out.alloc (.cells #[.string ByteArray.empty, .int .i64 0] 80)) (fun h => h)).put Tryz.underlying9 Tryz.underlying75 (by unfold maxLen; omega) s HS.out (.agg #[.string a, .int .i64 0])
  rw [HCT.out] at ht3
  have HT3 : Hid (TabS Tryz.prog 9 w3 d.r (k + 1) (rdT (setG g s.data.toList (a, 0)))) := by
    have := rdT_upd g s.data.toList (a, 0)
    show TabS _ _ _ _ _ _
    unfold setG
    rw [← this]
    exact ht3
  have HF3 := Lib.hid hf3
  have heq := eqlMap d.r
  clear hb1 hb2 hl hln ht3 hf3
  go_wp2
  go_ret
  have hfin : Fr (At1 d.r) w w3 := ((HF.out.alloc _).mono fun _ _ h => False.elim h).trans HF3.out
  exact ⟨rfl, (HD.out.no (HF.out.alloc _)).read HF3.out HT3.out HTK.out, hfin⟩
theorem dread_nil (s a : ByteArray) (w : World) : Calls Tryz.prog 15 #[.pointer none, .string s, .string a] w fun e w' => e = .returned (.int .i64 1) ∧ w' = w := by
  go_enter Tryz.func15, Tryz.ntmps15
  go_wp2
  go_ret
  exact ⟨rfl, rfl⟩
/-- so many more, or fewer, where there are so many -/
def moveE (n most : Int) : Int := if n < 0 ∨ most < n then 13 else 0
def tookG (g : List UInt8 → Option Rdr) (nm : List UInt8) (a : ByteArray) (t' : Nat) (e : Int) : List UInt8 → Option Rdr := if e = 0 then setG g nm (a, t') else g
set_option maxRecDepth 100000 in
set_option maxHeartbeats 1000000 in
theorem dmove_bad (s : ByteArray) (n way most : Int) (p : Option Addr) (w : World) (h : n < 0 ∨ most < n) :
    Calls Tryz.prog 35 #[.pointer p, .string s, .int .i64 n, .int .i64 way, .int .i64 most] w fun e w' => e = .returned (.int .i64 13) ∧ w' = w := by
  by_cases h1 : n < 0
  · have hd : decide (n < 0) = true := decide_eq_true h1
    clear h
    go_enter Tryz.func35, Tryz.ntmps35
    go_wp2
    go_ret
    exact ⟨rfl, rfl⟩
  · have hd : decide (n < 0) = false := decide_eq_false h1
    have h2 : most < n := h.resolve_left h1
    have hd2 : decide (most < n) = true := decide_eq_true h2
    clear h
    go_enter Tryz.func35, Tryz.ntmps35
    go_wp2
    go_ret
    exact ⟨rfl, rfl⟩
set_option maxRecDepth 100000 in
set_option maxHeartbeats 1000000 in
theorem dmove_any (s : ByteArray) (n way most : Int) (w : World) (h : DkS w d f N b E k g) (hs : s.size ≤ maxLen) (hk : k ≤ 1000000) {a : ByteArray} {t t' : Nat} (hg : g s.data.toList = some (a, t)) (h0 : 0 ≤ n) (hn : n ≤ most) (hway : way * n = (t' : Int) - (t : Int)) (hw : way = 1 ∨ way = -1) (ht' : t' ≤ (E a.data.toList).length) (hb : (t : Int) ≤ 1000000 ∧ n ≤ 1000000 ∧ (t' : Int) ≤ 1000000) :
    Calls Tryz.prog 35 #[.pointer (some ⟨d.p, 0, none⟩), .string s, .int .i64 n, .int .i64 way, .int .i64 most] w fun e w' => e = .returned (.int .i64 0) ∧ DkS w' d f N b E k (setG g s.data.toList (a, t')) ∧ Fr (At1 d.r) w w' := by
  have hd : decide (n < 0) = false := decide_eq_false (by omega)
  have hd2 : decide (most < n) = false := decide_eq_false (by omega)
  have HD := Lib.hid h
  have HS := Lib.hid hs
  obtain ⟨hsa, hta⟩ := h.tk _ _ hg
  simp only at hsa hta
  have x2 := h.blk.cell 2
  simp only [List.getElem?_toArray, List.getElem?_cons_zero, List.getElem?_cons_succ] at x2
  have hl := ((h.rd.fr (w' := w) (Fr.refl No w) (fun h => h)).look Tryz.underlying9 Tryz.underlying75 (zeroR w) s hs)
  rw [rdT_some hg] at hl
  simp only [Option.getD_some] at hl
  have hwn : wrap64 (way * n) = (t' : Int) - t := by rw [hway]; unfold wrap64; omega
  have hwt : wrap64 ((t : Int) + ((t' : Int) - t)) = (t' : Int) := by unfold wrap64; omega
  have HTK : Hid (∀ nm r, setG g s.data.toList (a, t') nm = some r → r.1.size ≤ maxLen ∧ r.2 ≤ (E r.1.data.toList).length) := fun nm r hr => by
    unfold setG at hr
    split at hr
    · injection hr with hr
      subst hr
      exact ⟨hsa, ht'⟩
    · exact h.tk nm r hr
  have HCT : Hid (cnt (rdT g) k s.data.toList = k) := by show _ = _; unfold cnt; rw [rdT_some hg]; rfl
  have hlt := h.blk.lt
  have hbk := (h.blk.alloc (.cells #[.string a, .int .i64 (t' : Int)] 80)).drew
  have y2 := hbk.cell 2
  simp only [List.getElem?_toArray, List.getElem?_cons_zero, List.getElem?_cons_succ] at y2
  have HF : Hid (Fr No w (w.alloc (.cells #[.string a, .int .i64 (t' : Int)] 80)).drew) := Fr.drew ((Fr.refl _ _).alloc _)
  have hz := (Blk.new w 80 #[.string a, .int .i64 (t' : Int)]).drew
  have z0 := hz.cell 0
  have z1 := hz.cell 1
  simp only [List.getElem?_toArray, List.getElem?_cons_zero, List.getElem?_cons_succ] at z0 z1
  obtain ⟨w3, hrun, ht3, hf3⟩ := (HD.out.rd.fr HF.out (fun h => h)).put Tryz.underlying9 Tryz.underlying75 (by unfold maxLen; omega) s HS.out (.agg #[.string a, .int .i64 (t' : Int)])
  rw [HCT.out] at ht3
  have HT3 : Hid (TabS Tryz.prog 9 w3 d.r k (rdT (setG g s.data.toList (a, t')))) := by
    have := rdT_upd g s.data.toList (a, t')
    show TabS _ _ _ _ _ _
    unfold setG
    rw [← this]
    exact ht3
  have HF3 := Lib.hid hf3
  clear h hs hg hta hsa hk hway hw hb hbk hz ht3 hf3
  go_enter Tryz.func35, Tryz.ntmps35
  go_upto_region 5 with (fail)
  have hfin : Fr (At1 d.r) w w3 := (HF.out.mono fun _ _ h => False.elim h).trans HF3.out
  have HFIN := Lib.hid (And.intro ((HD.out.no HF.out).read HF3.out HT3.out HTK.out) hfin)
  clear hfin
  go_region_law (fail)
  all_goals
    go_wp2
    go_ret
    exact ⟨rfl, HFIN.out⟩
set_option maxRecDepth 100000 in
set_option maxHeartbeats 1000000 in
theorem take_none (s : ByteArray) (n : Int) (w : World) (h : DkS w d f N b E k g) (hs : s.size ≤ maxLen) (hg : g s.data.toList = none) :
    Calls Tryz.prog 18 #[.pointer (some ⟨d.p, 0, none⟩), .string s, .int .i64 n] w fun e w' => e = .returned (.int .i64 6) ∧ Fr No w w' := by
  have HX := Lib.hid (find_none s w h hs hg)
  clear h hg
  go_enter Tryz.func18, Tryz.ntmps18
  go_wp2_with fail
  refine HX.out.mono ?_
  rintro e w1 ⟨rfl, hf⟩
  have HF := Lib.hid hf
  clear hf HX
  go_wp2
  go_ret
  exact ⟨rfl, HF.out.alloc _⟩
set_option maxRecDepth 100000 in
set_option maxHeartbeats 1000000 in
theorem take_some (s : ByteArray) (n : Int) (w : World) (h : DkS w d f N b E k g) (hs : s.size ≤ maxLen) (hk : k ≤ 1000000) (hn64 : In64 n) {a : ByteArray} {t : Nat} (hg : g s.data.toList = some (a, t)) (hl : (E a.data.toList).length ≤ 1000000) :
    Calls Tryz.prog 18 #[.pointer (some ⟨d.p, 0, none⟩), .string s, .int .i64 n] w fun e w' => e = .returned (.int .i64 (moveE n ((E a.data.toList).length - t : Nat))) ∧ DkS w' d f N b E k (tookG g s.data.toList a (t + n.toNat) (moveE n ((E a.data.toList).length - t : Nat))) ∧ Fr (At1 d.r) w w' := by
  have HX := Lib.hid (find_some s w h hs hg)
  have HD := Lib.hid h
  obtain ⟨hsa, hta⟩ := h.tk _ _ hg
  simp only at hsa hta
  obtain ⟨c, hc, hv⟩ := h.ev
  have HV := Lib.hid hv
  have HB := Lib.hid h.blk
  have HMV : Hid (∀ W, Fr No w W → Calls Tryz.prog 35 #[.pointer (some ⟨d.p, 0, none⟩), .string s, .int .i64 n, .int .i64 1, .int .i64 (((E a.data.toList).length : Int) - t)] W fun e w' => e = .returned (.int .i64 (moveE n ((E a.data.toList).length - t : Nat))) ∧ DkS w' d f N b E k (tookG g s.data.toList a (t + n.toNat) (moveE n ((E a.data.toList).length - t : Nat))) ∧ Fr (At1 d.r) W w') := fun W hW => by
    have ec : (((E a.data.toList).length - t : Nat) : Int) = ((E a.data.toList).length : Int) - t := by omega
    by_cases hb : n < 0 ∨ ((E a.data.toList).length : Int) - t < n
    · have e0 : moveE n ((E a.data.toList).length - t : Nat) = 13 := by unfold moveE; rw [if_pos (by rw [ec]; exact hb)]
      rw [e0]
      refine (dmove_bad s n 1 _ _ W hb).mono ?_
      rintro e w' ⟨rfl, rfl⟩
      exact ⟨rfl, h.no hW, Fr.refl _ _⟩
    · have e0 : moveE n ((E a.data.toList).length - t : Nat) = 0 := by unfold moveE; rw [if_neg (by rw [ec]; exact hb)]
      rw [e0]
      rw [not_or] at hb
      exact dmove_any s n 1 _ W (h.no hW) hs hk hg (by omega) (by omega) (by omega) (.inl rfl) (by omega) (by omega)
  clear h hg hv hc
  have hLt : (E a.data.toList).length ≤ 1000000 := hl
  clear hl
  generalize moveE n ((E a.data.toList).length - t : Nat) = e0 at *
  go_enter Tryz.func18, Tryz.ntmps18
  go_wp2_with fail
  refine HX.out.mono ?_
  rintro e w1 ⟨rfl, hf⟩
  have hsl := (HV.out.noF hf).sl a.data.toList
  obtain ⟨A, c1, hA, hc1, hc2⟩ := hsl.form
  have hf2 : Fr No w (w1.alloc (.cells #[.string a, .int .i64 (t : Int)] 80)) := hf.alloc _
  have hdr : d.r ≠ d.p := fun e => HD.out.rd.ne_ HD.out.blk e
  have hrl := HD.out.rd.lt
  have hX : ∀ W, Fr (At1 d.r) (w1.alloc (.cells #[.string a, .int .i64 (t : Int)] 80)) W → Fr (At1 d.r) (w1.alloc (.cells #[.string a, .int .i64 (t : Int)] 80)) W ∧ W.cell? ⟨d.p, 1, none⟩ = some (.map (some d.m)) ∧ W.cell? ⟨w1.heap.size, 0, none⟩ = some (.string a) ∧ W.cell? ⟨w1.heap.size, 1, none⟩ = some (.int .i64 (t : Int)) ∧ (Instr.lookup 74 (.map (some d.m)) (.string a) false).run Tryz.prog W = .ok (.slice A (E a.data.toList).length c1) W := fun W hW => by
    have h1 := (HB.out.fr hf2 (fun h => h)).fr hW (fun e => hdr (show d.p = d.r from e).symm)
    have h2 := (Blk.new w1 80 #[.string a, .int .i64 (t : Int)]).fr hW (fun e => by
      have e : w1.heap.size = d.r := e
      have := hf.size
      omega)
    have h3 := ((HV.out.noF hf2).fr hW (fun i hi e => HV.out.farT HD.out.rd HD.out.mr ((show i = d.r from e) ▸ hi))).look a hsa
    rw [hA] at h3
    exact ⟨hW, h1.cell 1, h2.cell 0, h2.cell 1, h3⟩
  have HX2 := Lib.hid hX
  have HF : Hid (Fr No w (w1.alloc (.cells #[.string a, .int .i64 (t : Int)] 80)).drew) := Fr.drew hf2
  have HM2 := Lib.hid (HMV.out _ HF.out)
  generalize (E a.data.toList) = L at *
  have hwl : wrap64 ((L.length : Int) - t) = (L.length : Int) - t := by unfold wrap64; omega
  have hwl2 : IntKind.i64.wrap ((L.length : Int) - t) = (L.length : Int) - t := IntWalk.i64_in _ (by omega)
  clear hf hf2 HMV hsl hA hX hdr hrl
  go_upto_region 4 with (fail)
  generalize w1.alloc (.cells #[.string a, .int .i64 (t : Int)] 80) = w2 at *
  have hk0 : Fr (At1 d.r) w2 w2.drew := (Fr.refl _ w2).drew
  go_region_held3 (fun W => Fr (At1 d.r) w2 W ∧ W.cell? ⟨d.p, 1, none⟩ = some (.map (some d.m)) ∧ W.cell? ⟨w1.heap.size, 0, none⟩ = some (.string a) ∧ W.cell? ⟨w1.heap.size, 1, none⟩ = some (.int .i64 (t : Int)) ∧ (Instr.lookup 74 (.map (some d.m)) (.string a) false).run Tryz.prog W = .ok (.slice A L.length c1) W)
    (first
      | (with_reducible refine HX2.out _ ?_; with_reducible assumption))
    (first
      | (go_at_call 35; (with_reducible refine HM2.out.mono ?_); rintro e q1 ⟨rfl, hd3, hg⟩; have ka1 : Fr (At1 d.r) w2 q1 := hk0.trans hg; have HD3 := Lib.hid hd3; have HF3 : Hid (Fr (At1 d.r) w q1) := (HF.out.mono fun _ _ h => False.elim h).trans hg; clear hg hd3))
  all_goals
    go_wp2
    go_ret
    exact ⟨rfl, HD3.out, HF3.out⟩
set_option maxRecDepth 100000 in
set_option maxHeartbeats 1000000 in
theorem back_none (s : ByteArray) (n : Int) (w : World) (h : DkS w d f N b E k g) (hs : s.size ≤ maxLen) (hg : g s.data.toList = none) :
    Calls Tryz.prog 21 #[.pointer (some ⟨d.p, 0, none⟩), .string s, .int .i64 n] w fun e w' => e = .returned (.int .i64 6) ∧ Fr No w w' := by
  have HX := Lib.hid (find_none s w h hs hg)
  clear h hg
  go_enter Tryz.func21, Tryz.ntmps21
  go_wp2_with fail
  refine HX.out.mono ?_
  rintro e w1 ⟨rfl, hf⟩
  have HF := Lib.hid hf
  clear hf HX
  go_wp2
  go_ret
  exact ⟨rfl, HF.out.alloc _⟩
set_option maxRecDepth 100000 in
set_option maxHeartbeats 1000000 in
theorem back_some (s : ByteArray) (n : Int) (w : World) (h : DkS w d f N b E k g) (hs : s.size ≤ maxLen) (hk : k ≤ 1000000) (hn64 : In64 n) {a : ByteArray} {t : Nat} (hg : g s.data.toList = some (a, t)) (hl : (E a.data.toList).length ≤ 1000000) :
    Calls Tryz.prog 21 #[.pointer (some ⟨d.p, 0, none⟩), .string s, .int .i64 n] w fun e w' => e = .returned (.int .i64 (moveE n (t : Nat))) ∧ DkS w' d f N b E k (tookG g s.data.toList a (t - n.toNat) (moveE n (t : Nat))) ∧ Fr (At1 d.r) w w' := by
  have HX := Lib.hid (find_some s w h hs hg)
  have HD := Lib.hid h
  obtain ⟨hsa, hta⟩ := h.tk _ _ hg
  simp only at hsa hta
  have HMV : Hid (∀ W, Fr No w W → Calls Tryz.prog 35 #[.pointer (some ⟨d.p, 0, none⟩), .string s, .int .i64 n, .int .i64 (-1), .int .i64 (t : Int)] W fun e w' => e = .returned (.int .i64 (moveE n (t : Nat))) ∧ DkS w' d f N b E k (tookG g s.data.toList a (t - n.toNat) (moveE n (t : Nat))) ∧ Fr (At1 d.r) W w') := fun W hW => by
    by_cases hb : n < 0 ∨ (t : Int) < n
    · have e0 : moveE n (t : Nat) = 13 := by unfold moveE; rw [if_pos hb]
      rw [e0]
      refine (dmove_bad s n (-1) _ _ W hb).mono ?_
      rintro e w' ⟨rfl, rfl⟩
      exact ⟨rfl, h.no hW, Fr.refl _ _⟩
    · have e0 : moveE n (t : Nat) = 0 := by unfold moveE; rw [if_neg hb]
      rw [e0]
      rw [not_or] at hb
      exact dmove_any s n (-1) _ W (h.no hW) hs hk hg (by omega) (by omega) (by omega) (.inr rfl) (by omega) (by omega)
  clear h hg
  generalize moveE n (t : Nat) = e0 at *
  go_enter Tryz.func21, Tryz.ntmps21
  go_wp2_with fail
  refine HX.out.mono ?_
  rintro e w1 ⟨rfl, hf⟩
  have HF : Hid (Fr No w (w1.alloc (.cells #[.string a, .int .i64 (t : Int)] 80))) := hf.alloc _
  have HM2 := Lib.hid (HMV.out _ HF.out)
  clear hf HMV
  go_wp2_with fail
  (with_reducible refine HM2.out.mono ?_)
  rintro e w3 ⟨rfl, hd3, hf3⟩
  have HD3 := Lib.hid hd3
  have HF3 := Lib.hid hf3
  clear hd3 hf3
  go_wp2
  go_ret
  exact ⟨rfl, HD3.out, (HF.out.mono fun _ _ h => False.elim h).trans HF3.out⟩
end
end Go.Proofs.YtlanhclgbkhdlaaGreat

namespace Go.Proofs.YtlanhclgbkhdlaaGreat
open Go.RowKit Go.My Go.Maps
set_option linter.unusedSimpArgs false
set_option linter.unusedVariables false
attribute [local go_sem ↓] Go.wp_at_zero Go.wp_at_succ

theorem tsAt {w : World} {F : Nat → Prop} {A : Option Addr} {n : Nat} {L : List (List UInt8)} (h : Rd w F 1 A n (ts L)) (k : Nat) (hk : k < n) : ∃ ad, ∃ hl : k < L.length, A = some ad ∧ F ad.block ∧ w.cell? (ad.add k) = some (.string ⟨L[k].toArray⟩) := by
  obtain ⟨ad, rfl, hF, hc⟩ := h.2 (by omega)
  have hl : k < L.length := by have := h.1; rw [ts_length] at this; omega
  exact ⟨ad, hl, rfl, hF, hc k _ (ts_get L k hl)⟩
/-- the first text for which q holds -/
def idxS (q : List UInt8 → Bool) (L : List (List UInt8)) : Int := match L.findIdx? q with | some i => (i : Int) | none => -1
def IxSRel (w : World) (q : List UInt8 → Bool) (L : List (List UInt8)) (iv : Value) (wr : World) : Prop := ∃ k : Nat, k ≤ L.length ∧ iv = .int .i64 k ∧ (∀ g ∈ L.take k, q g = false) ∧ Fr No w wr
theorem indexS_any (F : Nat → Prop) (A : Option Addr) (c : Nat) (L : List (List UInt8)) (f : FuncId) (bs : Array Value) (q : List UInt8 → Bool) (w : World) (hr : Rd w F 1 A L.length (ts L)) (hL : L.length ≤ 1000000)
    (hf : ∀ args W, (callFunc f args).run Tryz.prog W = .ok (.enter f args) W)
    (hc : ∀ W, Fr No w W → ∀ g ∈ L, Calls Tryz.prog f (#[.string ⟨g.toArray⟩] ++ bs) W fun e w' => e = .returned (.bool (q g)) ∧ Fr No W w') :
    Calls Tryz.prog 54 #[.slice A L.length c, .func (.func f) #[] bs] w fun e w' => e = .returned (.int .i64 (idxS q L)) ∧ Fr No w w' := by
  have HR := Lib.hid hr
  have HC := Lib.hid hc
  clear hr hc
  go_enter Tryz.func54, Tryz.ntmps54
  go_wp2
  go_loopw [8] (fun iv wr => IxSRel w q L iv wr) (fun iv _ => L.length - (intOf iv).toNat)
  case atStart => exact ⟨0, Nat.zero_le _, rfl, fun g hg => by simp at hg, Fr.refl _ _⟩
  case round =>
    obtain ⟨k, hk, rfl, hall, hfr⟩ := hrel
    by_cases hlt : k < L.length
    · obtain ⟨ad, hl, rfl, _, q0⟩ := tsAt (HR.out.fr (by omega) hfr fun _ _ _ h => h) k hlt
      have HCK := Lib.hid fun W hW => HC.out W hW L[k] (List.getElem_mem hlt)
      have HFR := Lib.hid hfr
      have hT : q L[k] = true → idxS q L = (k : Int) := fun h => by
        unfold idxS
        rw [List.findIdx?_eq_some_iff_getElem.2 ⟨hlt, h, fun j hj => by
          have := hall L[j] (List.mem_take_iff_getElem.2 ⟨j, by omega, rfl⟩)
          simp [this]⟩]
      have hN : q L[k] = false → ∀ g ∈ L.take (k + 1), q g = false := fun h g hg => by
        rw [List.take_succ_eq_append_getElem hlt, List.mem_append] at hg
        rcases hg with hg | hg
        · exact hall g hg
        · rw [List.mem_singleton.1 hg]; exact h
      have HT := Lib.hid hT
      have HN := Lib.hid hN
      generalize L[k] = g at *
      clear hall hfr hT hN
      cases hb : q g
      · rw [hb] at HCK
        have HN2 := Lib.hid (HN.out hb)
        clear HT HN hb
        go_wp2_with fail
        refine (HCK.out _ HFR.out).mono ?_
        rintro e w1 ⟨rfl, hf1⟩
        clear q0
        go_wp2
        go_roundw
        case rel => exact ⟨k + 1, by omega, by go_num, HN2.out, HFR.out.trans hf1⟩
        case measure => simp [intOf]; omega
      · rw [hb] at HCK
        have HT2 := Lib.hid (HT.out hb)
        clear HT HN hb
        go_wp2_with fail
        refine (HCK.out _ HFR.out).mono ?_
        rintro e w1 ⟨rfl, hf1⟩
        clear q0
        go_wp2
        go_ret
        exact ⟨by rw [HT2.out]; rfl, HFR.out.trans hf1⟩
    · obtain rfl : k = L.length := by omega
      have HF : Hid (idxS q L = -1) := by
        show _ = _
        unfold idxS
        rw [List.take_length] at hall
        rw [List.findIdx?_eq_none_iff.2 hall]
      go_wp2
      go_ret
      exact ⟨by rw [HF.out]; rfl, hfr⟩
theorem containsS_any (F : Nat → Prop) (A : Option Addr) (c : Nat) (L : List (List UInt8)) (f : FuncId) (bs : Array Value) (q : List UInt8 → Bool) (w : World) (hr : Rd w F 1 A L.length (ts L)) (hL : L.length ≤ 1000000)
    (hf : ∀ args W, (callFunc f args).run Tryz.prog W = .ok (.enter f args) W)
    (hc : ∀ W, Fr No w W → ∀ g ∈ L, Calls Tryz.prog f (#[.string ⟨g.toArray⟩] ++ bs) W fun e w' => e = .returned (.bool (q g)) ∧ Fr No W w') :
    Calls Tryz.prog 57 #[.slice A L.length c, .func (.func f) #[] bs] w fun e w' => e = .returned (.bool (L.any q)) ∧ Fr No w w' := by
  have HX := Lib.hid (indexS_any F A c L f bs q w hr hL hf hc)
  have HA : Hid (decide (0 ≤ idxS q L) = L.any q) := by
    show _ = _
    unfold idxS
    cases h : L.findIdx? q with
    | none =>
      rw [List.findIdx?_eq_none_iff] at h
      simp only
      rw [List.any_eq_false.2 (fun x hx => by rw [h x hx]; decide)]
      rfl
    | some i =>
      obtain ⟨hlt, hi, _⟩ := List.findIdx?_eq_some_iff_getElem.1 h
      simp only
      rw [List.any_eq_true.2 ⟨L[i], List.getElem_mem hlt, hi⟩]
      exact decide_eq_true (by omega)
  clear hr hf hc
  go_enter Tryz.func57, Tryz.ntmps57
  go_wp2_with fail
  refine HX.out.mono ?_
  rintro e w1 ⟨rfl, hf1⟩
  go_wp2
  go_ret
  exact ⟨by rw [← HA.out]; rfl, hf1⟩
end Go.Proofs.YtlanhclgbkhdlaaGreat

namespace Go.Proofs.YtlanhclgbkhdlaaGreat
open Go.RowKit Go.My Go.Maps
set_option linter.unusedSimpArgs false
set_option linter.unusedVariables false
attribute [local go_sem ↓] Go.wp_at_zero Go.wp_at_succ

def InRel (w : World) (L : List (List UInt8)) (s : List UInt8) (iv : Value) (wr : World) : Prop := ∃ k : Nat, k ≤ L.length ∧ iv = .int .i64 k ∧ (∀ x ∈ L.take k, x ≠ s) ∧ wr = w
set_option maxRecDepth 100000 in
theorem indexT_any (F : Nat → Prop) (A : Option Addr) (c : Nat) (L : List (List UInt8)) (s : List UInt8) (w : World) (hr : Rd w F 1 A L.length (ts L)) (hl : L.length ≤ 1000000) :
    Calls Tryz.prog 49 #[.slice A L.length c, .string ⟨s.toArray⟩] w fun e w' => (∃ n : Int, e = .returned (.int .i64 n) ∧ (0 ≤ n ↔ s ∈ L)) ∧ w' = w := by
  have HR := Lib.hid hr
  have HL := Lib.hid hl
  clear hr hl
  go_enter Tryz.func49, Tryz.ntmps49
  go_wp2
  go_loopw [8] (fun iv wr => InRel w L s iv wr) (fun iv _ => L.length - (intOf iv).toNat)
  case atStart => exact ⟨0, Nat.zero_le _, rfl, fun x hx => by simp at hx, rfl⟩
  case round =>
    obtain ⟨k, hk, rfl, hno, rfl⟩ := hrel
    have hk62 : (k : Int) < 9223372036854775807 := by have := HL.out; omega
    by_cases hlt : k < L.length
    · obtain ⟨ad, hl, rfl, _, q0⟩ := tsAt HR.out k hlt
      have HTK : Hid (L.take (k + 1) = L.take k ++ [L[k]]) := List.take_succ_eq_append_getElem hlt
      have HM : Hid (L[k] ∈ L) := List.getElem_mem hlt
      have HNO := Lib.hid hno
      have HLT : Hid (k + 1 ≤ L.length) := hlt
      generalize L[k] = x at *
      clear hno
      by_cases hx : x = s
      · subst hx
        go_wp2
        go_ret
        exact ⟨⟨(k : Int), rfl, fun _ => HM.out, fun _ => by omega⟩, rfl⟩
      · have hz1 : (s == x) = false := beq_eq_false_iff_ne.2 (fun e => hx e.symm)
        have hz2 : ((⟨s.toArray⟩ : ByteArray).toList == (⟨x.toArray⟩ : ByteArray).toList) = false := by rw [ByteArray.toList_eq, ByteArray.toList_eq]; exact hz1
        have HX := Lib.hid hx
        clear hx
        go_wp2
        go_roundw
        case rel =>
          refine ⟨k + 1, HLT.out, by go_num, fun y hy => ?_, rfl⟩
          rw [HTK.out, List.mem_append, List.mem_singleton] at hy
          rcases hy with hy | hy
          · exact HNO.out y hy
          · rw [hy]; exact HX.out
        case measure => have := HLT.out; simp [intOf]; omega
    · obtain rfl : k = L.length := by omega
      have HN : Hid (s ∉ L) := by
        rw [List.take_length] at hno
        exact fun h => hno s h rfl
      clear hno
      go_wp2
      go_ret
      exact ⟨⟨-1, rfl, fun h => by omega, fun h => absurd h HN.out⟩, rfl⟩
theorem containsT_any (F : Nat → Prop) (A : Option Addr) (c : Nat) (L : List (List UInt8)) (s : List UInt8) (w : World) (hr : Rd w F 1 A L.length (ts L)) (hl : L.length ≤ 1000000) :
    Calls Tryz.prog 32 #[.slice A L.length c, .string ⟨s.toArray⟩] w fun e w' => e = .returned (.bool (decide (s ∈ L))) ∧ w' = w := by
  have HX := Lib.hid (indexT_any F A c L s w hr hl)
  clear hr hl
  go_enter Tryz.func32, Tryz.ntmps32
  go_wp2_with fail
  refine HX.out.mono ?_
  rintro e w1 ⟨⟨n, rfl, hn⟩, rfl⟩
  have HE : Hid (decide (0 ≤ n) = decide (s ∈ L)) := decide_eq_decide.2 hn
  clear hn HX
  go_wp2
  go_ret
  exact ⟨by rw [← HE.out]; rfl, rfl⟩
theorem fr_set11 (w : World) (g : Nat) (a0 a1 a2 a3 a4 a5 a6 a7 a8 a9 a10 : Value) : Fr (At1 g) w (((((((((((w.setCell ⟨g, 0, none⟩ a0).setCell ⟨g, 1, none⟩ a1).setCell ⟨g, 2, none⟩ a2).setCell ⟨g, 3, none⟩ a3).setCell ⟨g, 4, none⟩ a4).setCell ⟨g, 5, none⟩ a5).setCell ⟨g, 6, none⟩ a6).setCell ⟨g, 7, none⟩ a7).setCell ⟨g, 8, none⟩ a8).setCell ⟨g, 9, none⟩ a9).setCell ⟨g, 10, none⟩ a10) := ((((((((((fr_set w g 0 a0).trans (fr_set _ g 1 a1)).trans (fr_set _ g 2 a2)).trans (fr_set _ g 3 a3)).trans (fr_set _ g 4 a4)).trans (fr_set _ g 5 a5)).trans (fr_set _ g 6 a6)).trans (fr_set _ g 7 a7)).trans (fr_set _ g 8 a8)).trans (fr_set _ g 9 a9)).trans (fr_set _ g 10 a10)
theorem blk_set11 {w : World} {g : Nat} {t : TypeId} {x0 x1 x2 x3 x4 x5 x6 x7 x8 x9 x10 : Value} (h : Blk w g t #[x0, x1, x2, x3, x4, x5, x6, x7, x8, x9, x10]) (a0 a1 a2 a3 a4 a5 a6 a7 a8 a9 a10 : Value) : Blk (((((((((((w.setCell ⟨g, 0, none⟩ a0).setCell ⟨g, 1, none⟩ a1).setCell ⟨g, 2, none⟩ a2).setCell ⟨g, 3, none⟩ a3).setCell ⟨g, 4, none⟩ a4).setCell ⟨g, 5, none⟩ a5).setCell ⟨g, 6, none⟩ a6).setCell ⟨g, 7, none⟩ a7).setCell ⟨g, 8, none⟩ a8).setCell ⟨g, 9, none⟩ a9).setCell ⟨g, 10, none⟩ a10) g t #[a0, a1, a2, a3, a4, a5, a6, a7, a8, a9, a10] := by
  have h0 : Blk (w.setCell ⟨g, 0, none⟩ a0) g t #[a0, x1, x2, x3, x4, x5, x6, x7, x8, x9, x10] := h.set_ 0 a0
  have h1 : Blk ((w.setCell ⟨g, 0, none⟩ a0).setCell ⟨g, 1, none⟩ a1) g t #[a0, a1, x2, x3, x4, x5, x6, x7, x8, x9, x10] := h0.set_ 1 a1
  have h2 : Blk (((w.setCell ⟨g, 0, none⟩ a0).setCell ⟨g, 1, none⟩ a1).setCell ⟨g, 2, none⟩ a2) g t #[a0, a1, a2, x3, x4, x5, x6, x7, x8, x9, x10] := h1.set_ 2 a2
  have h3 : Blk ((((w.setCell ⟨g, 0, none⟩ a0).setCell ⟨g, 1, none⟩ a1).setCell ⟨g, 2, none⟩ a2).setCell ⟨g, 3, none⟩ a3) g t #[a0, a1, a2, a3, x4, x5, x6, x7, x8, x9, x10] := h2.set_ 3 a3
  have h4 : Blk (((((w.setCell ⟨g, 0, none⟩ a0).setCell ⟨g, 1, none⟩ a1).setCell ⟨g, 2, none⟩ a2).setCell ⟨g, 3, none⟩ a3).setCell ⟨g, 4, none⟩ a4) g t #[a0, a1, a2, a3, a4, x5, x6, x7, x8, x9, x10] := h3.set_ 4 a4
  have h5 : Blk ((((((w.setCell ⟨g, 0, none⟩ a0).setCell ⟨g, 1, none⟩ a1).setCell ⟨g, 2, none⟩ a2).setCell ⟨g, 3, none⟩ a3).setCell ⟨g, 4, none⟩ a4).setCell ⟨g, 5, none⟩ a5) g t #[a0, a1, a2, a3, a4, a5, x6, x7, x8, x9, x10] := h4.set_ 5 a5
  have h6 : Blk (((((((w.setCell ⟨g, 0, none⟩ a0).setCell ⟨g, 1, none⟩ a1).setCell ⟨g, 2, none⟩ a2).setCell ⟨g, 3, none⟩ a3).setCell ⟨g, 4, none⟩ a4).setCell ⟨g, 5, none⟩ a5).setCell ⟨g, 6, none⟩ a6) g t #[a0, a1, a2, a3, a4, a5, a6, x7, x8, x9, x10] := h5.set_ 6 a6
  have h7 : Blk ((((((((w.setCell ⟨g, 0, none⟩ a0).setCell ⟨g, 1, none⟩ a1).setCell ⟨g, 2, none⟩ a2).setCell ⟨g, 3, none⟩ a3).setCell ⟨g, 4, none⟩ a4).setCell ⟨g, 5, none⟩ a5).setCell ⟨g, 6, none⟩ a6).setCell ⟨g, 7, none⟩ a7) g t #[a0, a1, a2, a3, a4, a5, a6, a7, x8, x9, x10] := h6.set_ 7 a7
  have h8 : Blk (((((((((w.setCell ⟨g, 0, none⟩ a0).setCell ⟨g, 1, none⟩ a1).setCell ⟨g, 2, none⟩ a2).setCell ⟨g, 3, none⟩ a3).setCell ⟨g, 4, none⟩ a4).setCell ⟨g, 5, none⟩ a5).setCell ⟨g, 6, none⟩ a6).setCell ⟨g, 7, none⟩ a7).setCell ⟨g, 8, none⟩ a8) g t #[a0, a1, a2, a3, a4, a5, a6, a7, a8, x9, x10] := h7.set_ 8 a8
  have h9 : Blk ((((((((((w.setCell ⟨g, 0, none⟩ a0).setCell ⟨g, 1, none⟩ a1).setCell ⟨g, 2, none⟩ a2).setCell ⟨g, 3, none⟩ a3).setCell ⟨g, 4, none⟩ a4).setCell ⟨g, 5, none⟩ a5).setCell ⟨g, 6, none⟩ a6).setCell ⟨g, 7, none⟩ a7).setCell ⟨g, 8, none⟩ a8).setCell ⟨g, 9, none⟩ a9) g t #[a0, a1, a2, a3, a4, a5, a6, a7, a8, a9, x10] := h8.set_ 9 a9
  have h10 : Blk (((((((((((w.setCell ⟨g, 0, none⟩ a0).setCell ⟨g, 1, none⟩ a1).setCell ⟨g, 2, none⟩ a2).setCell ⟨g, 3, none⟩ a3).setCell ⟨g, 4, none⟩ a4).setCell ⟨g, 5, none⟩ a5).setCell ⟨g, 6, none⟩ a6).setCell ⟨g, 7, none⟩ a7).setCell ⟨g, 8, none⟩ a8).setCell ⟨g, 9, none⟩ a9).setCell ⟨g, 10, none⟩ a10) g t #[a0, a1, a2, a3, a4, a5, a6, a7, a8, a9, a10] := h9.set_ 10 a10
  exact h10
/-- a marked order's cells -/
def mkd (o : Od) (v a : Value) : Value := .agg (o.cs v ++ [a]).toArray
theorem mark_any (F : Nat → Prop) (o : Od) (v : Value) (w : World) (hv : LgS w F v o.legs) (hl : o.legs.length ≤ 100000) :
    Calls Tryz.prog 42 #[o.val v] w fun e w' => ∃ A c, e = .returned (mkd o v (.slice A (touchL o).length c)) ∧ Own w' 9 1 (.slice A (touchL o).length c) (touchL o).length (ts (touchL o)) ∧ (touchL o).length ≤ c ∧ c ≤ maxLen ∧ Fr No w w' ∧ ∀ k, (Value.slice A (touchL o).length c).ownBlock = some k → w.heap.size ≤ k := by
  have HT : Hid (∀ W, Fr No w W → Calls Tryz.prog 25 #[o.val v] W (RetOwn W 9 1 none (touchL o).length (ts (touchL o)))) := fun W hW => touches_any F o v W (hv.no hW) hl
  obtain ⟨vB, vd, rfl, -, -⟩ := hv.form
  generalize touchL o = T at *
  generalize o.legs.length = vn at *
  clear hv hl
  obtain ⟨ocl, osq, okd, oac, ope, osm, olg, opr, ohd, ont⟩ := o
  unfold mkd Od.val Od.cs at *
  simp only at HT ⊢
  have hbo := Blk.new w 31 #[.int .i64 ocl, .int .i64 osq, .int .i64 okd, .string oac, .string ope, .int .i64 osm, .slice vB vn vd, .int .i64 opr, .int .i64 ohd, .string ont]
  go_enter Tryz.func42, Tryz.ntmps42
  have hbz := Blk.new (w.alloc (.cells #[.int .i64 ocl, .int .i64 osq, .int .i64 okd, .string oac, .string ope, .int .i64 osm, .slice vB vn vd, .int .i64 opr, .int .i64 ohd, .string ont] 31)) 97 #[.int .i64 0, .int .i64 0, .int .i64 0, .string ⟨#[]⟩, .string ⟨#[]⟩, .int .i64 0, .slice none 0 0, .int .i64 0, .int .i64 0, .string ⟨#[]⟩, .slice none 0 0]
  rw [World.size_alloc] at hbz
  have hbo1 := hbo.alloc (.cells #[.int .i64 0, .int .i64 0, .int .i64 0, .string ⟨#[]⟩, .string ⟨#[]⟩, .int .i64 0, .slice none 0 0, .int .i64 0, .int .i64 0, .string ⟨#[]⟩, .slice none 0 0] 97)
  have hf1 : Fr No w ((w.alloc (.cells #[.int .i64 ocl, .int .i64 osq, .int .i64 okd, .string oac, .string ope, .int .i64 osm, .slice vB vn vd, .int .i64 opr, .int .i64 ohd, .string ont] 31)).alloc (.cells #[.int .i64 0, .int .i64 0, .int .i64 0, .string ⟨#[]⟩, .string ⟨#[]⟩, .int .i64 0, .slice none 0 0, .int .i64 0, .int .i64 0, .string ⟨#[]⟩, .slice none 0 0] 97)) := ((Fr.refl _ _).alloc _).alloc _
  clear hbo
  go_upto_region 1 with (fail)
  generalize (w.alloc (.cells #[.int .i64 ocl, .int .i64 osq, .int .i64 okd, .string oac, .string ope, .int .i64 osm, .slice vB vn vd, .int .i64 opr, .int .i64 ohd, .string ont] 31)).alloc (.cells #[.int .i64 0, .int .i64 0, .int .i64 0, .string ⟨#[]⟩, .string ⟨#[]⟩, .int .i64 0, .slice none 0 0, .int .i64 0, .int .i64 0, .string ⟨#[]⟩, .slice none 0 0] 97) = w2 at *
  have HBZ := Lib.hid hbz
  have HF1 := Lib.hid hf1
  have HX : Hid (∀ W, Fr (At1 (w.heap.size + 1)) w2 W → Fr (At1 (w.heap.size + 1)) w2 W ∧ W.cell? ⟨w.heap.size, 0, none⟩ = some (.int .i64 ocl) ∧ W.cell? ⟨w.heap.size, 1, none⟩ = some (.int .i64 osq) ∧ W.cell? ⟨w.heap.size, 2, none⟩ = some (.int .i64 okd) ∧ W.cell? ⟨w.heap.size, 3, none⟩ = some (.string oac) ∧ W.cell? ⟨w.heap.size, 4, none⟩ = some (.string ope) ∧ W.cell? ⟨w.heap.size, 5, none⟩ = some (.int .i64 osm) ∧ W.cell? ⟨w.heap.size, 6, none⟩ = some (.slice vB vn vd) ∧ W.cell? ⟨w.heap.size, 7, none⟩ = some (.int .i64 opr) ∧ W.cell? ⟨w.heap.size, 8, none⟩ = some (.int .i64 ohd) ∧ W.cell? ⟨w.heap.size, 9, none⟩ = some (.string ont)) := fun W hW => by
    have h1 := hbo1.fr hW (fun e => by have : w.heap.size = w.heap.size + 1 := e; omega)
    exact ⟨hW, h1.cell 0, h1.cell 1, h1.cell 2, h1.cell 3, h1.cell 4, h1.cell 5, h1.cell 6, h1.cell 7, h1.cell 8, h1.cell 9⟩
  have hk0 : Fr (At1 (w.heap.size + 1)) w2 w2.drew := (Fr.refl _ w2).drew
  clear hbz hbo1 hf1
  go_region_held3 (fun W => Fr (At1 (w.heap.size + 1)) w2 W ∧ W.cell? ⟨w.heap.size, 0, none⟩ = some (.int .i64 ocl) ∧ W.cell? ⟨w.heap.size, 1, none⟩ = some (.int .i64 osq) ∧ W.cell? ⟨w.heap.size, 2, none⟩ = some (.int .i64 okd) ∧ W.cell? ⟨w.heap.size, 3, none⟩ = some (.string oac) ∧ W.cell? ⟨w.heap.size, 4, none⟩ = some (.string ope) ∧ W.cell? ⟨w.heap.size, 5, none⟩ = some (.int .i64 osm) ∧ W.cell? ⟨w.heap.size, 6, none⟩ = some (.slice vB vn vd) ∧ W.cell? ⟨w.heap.size, 7, none⟩ = some (.int .i64 opr) ∧ W.cell? ⟨w.heap.size, 8, none⟩ = some (.int .i64 ohd) ∧ W.cell? ⟨w.heap.size, 9, none⟩ = some (.string ont))
    (first
      | (with_reducible refine HX.out _ ?_; with_reducible assumption)
      | (with_reducible refine HX.out _ (Fr.trans ?_ (fr_set11 _ _ _ _ _ _ _ _ _ _ _ _ _)); with_reducible assumption)
      | (with_reducible refine HX.out _ (Fr.drew ?_); with_reducible first | assumption | exact Fr.refl _ w2))
    (first
      | (go_at_call 25; (with_reducible refine (HT.out _ HF1.out.drew).mono ?_); rintro e q1 ⟨v1, rfl, ho1, hg1, hn1⟩; obtain ⟨A1, c1, rfl, hl1, hm1⟩ := ho1.form; have kn := fr_at_none hg1; have ka1 : Fr (At1 (w.heap.size + 1)) w2 q1 := hk0.trans (kn.mono fun _ _ h => False.elim h); have hz := (HBZ.out.drew).fr kn (fun h => h); have y0 := hz.cell 0; have y1 := hz.cell 1; have y2 := hz.cell 2; have y3 := hz.cell 3; have y4 := hz.cell 4; have y5 := hz.cell 5; have y6 := hz.cell 6; have y7 := hz.cell 7; have y8 := hz.cell 8; have y9 := hz.cell 9; have y10 := hz.cell 10; have z0 := hz.frozen 0; have z1 := hz.frozen 1; have z2 := hz.frozen 2; have z3 := hz.frozen 3; have z4 := hz.frozen 4; have z5 := hz.frozen 5; have z6 := hz.frozen 6; have z7 := hz.frozen 7; have z8 := hz.frozen 8; have z9 := hz.frozen 9; have z10 := hz.frozen 10; simp only [List.getElem?_toArray, List.getElem?_cons_zero, List.getElem?_cons_succ] at y0 y1 y2 y3 y4 y5 y6 y7 y8 y9 y10; clear hg1))
  have hd := blk_set11 hz (.int .i64 ocl) (.int .i64 osq) (.int .i64 okd) (.string oac) (.string ope) (.int .i64 osm) (.slice vB vn vd) (.int .i64 opr) (.int .i64 ohd) (.string ont) (.slice A1 T.length c1)
  have hfin := fr_set11 q1 (w.heap.size + 1) (.int .i64 ocl) (.int .i64 osq) (.int .i64 okd) (.string oac) (.string ope) (.int .i64 osm) (.slice vB vn vd) (.int .i64 opr) (.int .i64 ohd) (.string ont) (.slice A1 T.length c1)
  have HDD := Lib.hid hd
  have HO := Lib.hid (ho1.fr hfin (fun k hk e => by
    obtain ⟨cur, hb⟩ := ho1.blk k hk
    exact Blk.ne_ hb hz (by decide) e))
  have HFF : Hid (Fr No w _) := (HF1.out.drew.trans kn).trans' hfin (fun i hi hlt => by have : i = w.heap.size + 1 := hi; omega)
  have HN : Hid (∀ k, (Value.slice A1 T.length c1).ownBlock = some k → w.heap.size ≤ k) := fun k hk => by
    have h1 : w2.heap.size ≤ k := newer_none hn1 k hk
    have h2 := HF1.out.size
    omega
  clear hd hfin hz kn ka1 hn1 ho1 hk0 HX HT y0 y1 y2 y3 y4 y5 y6 y7 y8 y9 y10 z0 z1 z2 z3 z4 z5 z6 z7 z8 z9 z10
  generalize (((((((((((q1.setCell ⟨w.heap.size + 1, 0, none⟩ (.int .i64 ocl)).setCell ⟨w.heap.size + 1, 1, none⟩ (.int .i64 osq)).setCell ⟨w.heap.size + 1, 2, none⟩ (.int .i64 okd)).setCell ⟨w.heap.size + 1, 3, none⟩ (.string oac)).setCell ⟨w.heap.size + 1, 4, none⟩ (.string ope)).setCell ⟨w.heap.size + 1, 5, none⟩ (.int .i64 osm)).setCell ⟨w.heap.size + 1, 6, none⟩ (.slice vB vn vd)).setCell ⟨w.heap.size + 1, 7, none⟩ (.int .i64 opr)).setCell ⟨w.heap.size + 1, 8, none⟩ (.int .i64 ohd)).setCell ⟨w.heap.size + 1, 9, none⟩ (.string ont)).setCell ⟨w.heap.size + 1, 10, none⟩ (.slice A1 T.length c1)) = qf at *
  go_wp2
  have hd := HDD.out
  have d0 := hd.cell 0
  have d1 := hd.cell 1
  have d2 := hd.cell 2
  have d3 := hd.cell 3
  have d4 := hd.cell 4
  have d5 := hd.cell 5
  have d6 := hd.cell 6
  have d7 := hd.cell 7
  have d8 := hd.cell 8
  have d9 := hd.cell 9
  have d10 := hd.cell 10
  simp only [List.getElem?_toArray, List.getElem?_cons_zero, List.getElem?_cons_succ] at d0 d1 d2 d3 d4 d5 d6 d7 d8 d9 d10
  refine bodyPost_ret (v := .agg #[.int .i64 ocl, .int .i64 osq, .int .i64 okd, .string oac, .string ope, .int .i64 osm, .slice vB vn vd, .int .i64 opr, .int .i64 ohd, .string ont, .slice A1 T.length c1]) (by simp [results, Tryz.results42, go_sem, d0, d1, d2, d3, d4, d5, d6, d7, d8, d9, d10]) rfl ?_
  exact ⟨A1, c1, rfl, HO.out, hl1, hm1, HFF.out, HN.out⟩
end Go.Proofs.YtlanhclgbkhdlaaGreat

namespace Go.Proofs.YtlanhclgbkhdlaaGreat
open Go.RowKit Go.My Go.Maps
set_option linter.unusedSimpArgs false
set_option linter.unusedVariables false
attribute [local go_sem ↓] Go.wp_at_zero Go.wp_at_succ

/-- what the first k accounts give -/
def stepEv (S : List Ac) (o : Od) (k : Nat) (nm : List UInt8) : List Ev := match getA (S.take k) nm with | some a => if nm ∈ touchL o then [⟨o.cl, o.sq, o.kd, a.hv, a.st⟩] else [] | none => []
theorem stepEv_zero (S : List Ac) (o : Od) (nm : List UInt8) : stepEv S o 0 nm = [] := rfl
theorem stepEv_all {b : Bk} {o : Od} (h : (doR b o).err = 0) (nm : List UInt8) : stepEv (doB b o).S o (doB b o).S.length nm = newEv b o nm := by
  unfold stepEv newEv evAt
  rw [List.take_length]
  by_cases ht : nm ∈ touchL o
  · rw [if_pos ⟨h, ht⟩]
    cases getA (doB b o).S nm with
    | none => rfl
    | some a => simp only [if_pos ht]
  · rw [if_neg (fun e => ht e.2)]
    cases getA (doB b o).S nm with
    | none => rfl
    | some a => simp only [if_neg ht]
theorem getA_take {S : List Ac} (hr : Rise S) {k : Nat} (hk : k < S.length) : getA (S.take k) S[k].name = none := by
  unfold getA
  rw [List.find?_eq_none]
  intro a ha
  obtain ⟨j, hj, rfl⟩ := List.mem_take_iff_getElem.1 ha
  have h1 := List.pairwise_iff_getElem.1 hr j k (by omega) hk (by omega)
  intro e
  have e : S[j].name = S[k].name := by simpa using e
  have h1 : bytesBefore S[j].name S[k].name = true := h1
  rw [e] at h1
  exact str_asymm h1 h1
theorem getA_next (S : List Ac) {k : Nat} (hk : k < S.length) (nm : List UInt8) : getA (S.take (k + 1)) nm = (getA (S.take k) nm).or (if S[k].name = nm then some S[k] else none) := by
  unfold getA
  rw [List.take_succ_eq_append_getElem hk, List.find?_append]
  congr 1
  rw [List.find?_cons]
  by_cases e : S[k].name = nm
  · rw [if_pos e, beq_iff_eq.2 e]
  · rw [if_neg e, beq_eq_false_iff_ne.2 e]
    rfl
theorem stepEv_put {S : List Ac} (hr : Rise S) {o : Od} {k : Nat} (hk : k < S.length) (ht : S[k].name ∈ touchL o) (E : List UInt8 → List Ev) (nm : List UInt8) :
    (if nm = S[k].name then (E nm ++ stepEv S o k nm) ++ [⟨o.cl, o.sq, o.kd, S[k].hv, S[k].st⟩] else E nm ++ stepEv S o k nm) = E nm ++ stepEv S o (k + 1) nm := by
  unfold stepEv
  rw [getA_next S hk]
  by_cases e : nm = S[k].name
  · rw [if_pos e, e, getA_take hr hk]
    simp only [if_true, Option.none_or, if_pos ht, List.append_nil]
  · rw [if_neg e, if_neg (fun h => e h.symm), Option.or_none]
theorem stepEv_skip {S : List Ac} (hr : Rise S) {o : Od} {k : Nat} (hk : k < S.length) (ht : S[k].name ∉ touchL o) (nm : List UInt8) : stepEv S o k nm = stepEv S o (k + 1) nm := by
  unfold stepEv
  rw [getA_next S hk]
  by_cases e : nm = S[k].name
  · rw [e, getA_take hr hk]
    simp only [if_true, Option.none_or, if_neg ht]
  · rw [if_neg (fun h => e h.symm), Option.or_none]
theorem stepEv_len (S : List Ac) (o : Od) (k : Nat) (nm : List UInt8) : (stepEv S o k nm).length ≤ 1 := by
  unfold stepEv
  split
  · split <;> simp
  · simp

/-- 'm[k] = append(m[k], e)': at the append, the map's store at hand -/
theorem step_app_ev {ops : Array Oper} {o : Oper} {a : Act} {w : World} {K : Act → World → Prop} {Q : Exit → Act → World → Prop} {X : Prop}
    (hgd : o.guard = none) (s x : Operand) (hop : o.op = Op.call { callee := Callee.builtin Builtin.append, args := #[s, x], argTypes := #[39, 39] })
    {v : Value} {n : Nat} {xs : List Value} (hown : Own w 65 5 v n xs) (hs : a.eval s = v) {B : Nat} {c0 c1 c2 c3 c4 : Value} (hB : w.heap[B]? = some (.cells #[c0, c1, c2, c3, c4] 65 (0, 0))) (h1 : ∀ y ∈ [c0, c1, c2, c3, c4], y.oneCell' = true) (hx : a.eval x = .slice (some ⟨B, 0, none⟩) 1 1)
    (hn : n ≤ 1000000) {m c : Nat} {f : List UInt8 → Option Value} (ht : TabS Tryz.prog 9 w m c f) (hc : c < maxLen) (nm : ByteArray) (hnm : nm.size ≤ maxLen) (hv : v.ownBlock ≠ some m)
    (h : ∀ v' w1 w2, (Instr.mapUpdate 74 (.map (some m)) (.string nm) v').run Tryz.prog w1 = .ok () w2 → Own w1 65 5 v' (n + 1) (xs ++ [c0, c1, c2, c3, c4]) → Fr (AtO v.ownBlock) w w1 → (v'.ownBlock = v.ownBlock ∨ v'.ownBlock = some w.heap.size) → TabS Tryz.prog 9 w2 m (cnt f c nm.data.toList) (upd f nm.data.toList v') → Fr (At1 m) w1 w2 → K (a.put o.dst v') w1) :
    if Region.wanted o (yielded ops a.tmps) = true then Oper.wp Tryz.prog o a w K Q else X := by
  have hsrc : Src Tryz.prog w 5 39 (.slice (some ⟨B, 0, none⟩) 1 1) 1 [c0, c1, c2, c3, c4] := Src.of_new (cs := #[c0, c1, c2, c3, c4]) (t := 65) B hB Tryz.underlying39 rfl h1
  refine step_app (size := 5) (bytes := 40) (n := n) (m := 1) w hgd s x 39 39 hop elE hown hs hsrc hx (by simp only [maxLen]; omega) (by omega) ?_
  intro v' w1 h2 h3 h4
  have ht1 := ht.fr h3 (fun e => hv (show v.ownBlock = some m from e))
  obtain ⟨w2, hrun, ht2, hf2⟩ := ht1.put Tryz.underlying9 Tryz.underlying74 hc nm hnm v'
  exact h v' w1 w2 hrun h2 h3 h4 ht2 hf2
theorem LgS.fr12 {w w' : World} {F S : Nat → Prop} {v : Value} {L : List Lg} (h : LgS w F v L) (hf : Fr S w w') (hn : ∀ k, F k → k < w.heap.size → ¬ S k) : LgS w' F v L := by
  obtain ⟨A, c, cells, e, hr, r⟩ := h
  exact ⟨A, c, cells, e, hr.fr (by omega) hf hn, r⟩
theorem fr_set4' (w : World) (g : Nat) (a b c d : Value) : Fr (At1 g) w ((((w.setCell ⟨g, 0, none⟩ a).setCell ⟨g, 1, none⟩ b).setCell ⟨g, 2, none⟩ c).setCell ⟨g, 3, none⟩ d) := fr_set4 w g a b c d
def DoneS (d : Dp) (f : List UInt8 → Option Value) (N : Nat) (b : Bk) (E : List UInt8 → List Ev) (k : Nat) (g : List UInt8 → Option Rdr) (o : Od) (w : World) (e : Ending) (w' : World) : Prop :=
  ∃ f', e = .returned (doR b o).val ∧ DkS w' d f' (N + 12) (doB b o) (fun nm => E nm ++ newEv b o nm) k g ∧ Fr (d.wr f) w w' ∧ ∀ i, evB d.m f' i → evB d.m f i ∨ w.heap.size ≤ i
def DoRel (w1 : World) (m : Nat) (f : List UInt8 → Option Value) (N : Nat) (E : List UInt8 → List Ev) (n : Nat) (SE : Nat → List UInt8 → List Ev) (iv : Value) (wr : World) : Prop :=
  ∃ (j : Nat) (f' : List UInt8 → Option Value) (c : Nat), j ≤ n ∧ iv = .int .i64 j ∧ c ≤ N + j ∧ EvS wr m c f' (fun nm => E nm ++ SE j nm) ∧ Fr (evB m f) w1 wr ∧ ∀ i, evB m f' i → evB m f i ∨ w1.heap.size ≤ i
theorem cnt_le (f : List UInt8 → Option Value) (c : Nat) (nm : List UInt8) : cnt f c nm ≤ c + 1 := by unfold cnt; split <;> omega
section
variable {d : Dp} {f : List UInt8 → Option Value} {N : Nat} {b : Bk} {E : List UInt8 → List Ev} {k : Nat} {g : List UInt8 → Option Rdr}
/-- only the book has changed -/
theorem DkS.book {w w' : World} (h : DkS w d f N b E k g) {b' : Bk} (hb : BkS w' d.q b') (hf : Fr d.q.wr w w') : DkS w' d f N b' E k g := by
  obtain ⟨c, hc, hv⟩ := h.ev
  exact ⟨h.blk.fr hf (fun e => h.wr_p (.inl e)), hb, ⟨c, hc, hv.fr hf (fun i hi e => h.qe i (Pl.wr_all e) hi)⟩, h.rd.fr hf (fun e => h.wr_r (.inl e)), h.mr, h.qm, h.qr, h.tk⟩
/-- and its events -/
theorem DkS.evs {w w' : World} (h : DkS w d f N b E k g) {f' : List UInt8 → Option Value} {N' c' : Nat} {E' : List UInt8 → List Ev} (hv : EvS w' d.m c' f' E') (hc : c' ≤ N') (hf : Fr (evB d.m f) w w') (hl : ∀ nm, (E nm).length ≤ (E' nm).length) : DkS w' d f' N' b E' k g := by
  obtain ⟨c, _, hv0⟩ := h.ev
  exact ⟨h.blk.fr hf (fun e => h.wr_p (.inr e)), h.bk.fr hf (fun i hi e => h.qe i hi e), ⟨c', hc, hv⟩, h.rd.fr hf (fun e => h.wr_r (.inr e)), h.mr, h.qm, h.qr, fun nm r hr => ⟨(h.tk nm r hr).1, Nat.le_trans (h.tk nm r hr).2 (hl _)⟩⟩
theorem DkS.same {w : World} (h : DkS w d f N b E k g) {N' : Nat} {E' : List UInt8 → List Ev} (hN : N ≤ N') (he : ∀ nm, E nm = E' nm) : DkS w d f N' b E' k g := by
  have : E = E' := funext he
  subst this
  obtain ⟨c, hc, hv⟩ := h.ev
  exact ⟨h.blk, h.bk, ⟨c, Nat.le_trans hc hN, hv⟩, h.rd, h.mr, h.qm, h.qr, h.tk⟩
end
end Go.Proofs.YtlanhclgbkhdlaaGreat

namespace Go.Proofs.YtlanhclgbkhdlaaGreat
open Go.RowKit Go.My Go.Maps
set_option linter.unusedSimpArgs false
set_option linter.unusedVariables false
attribute [local go_sem ↓] Go.wp_at_zero Go.wp_at_succ

noncomputable def dorgs : { c : Code // regOf 11 Tryz.f16 = c } := ⟨_, by conv => lhs; whnf⟩
noncomputable def dorg : Code := dorgs.1
def EvsPost (w : World) (m c : Nat) (f : List UInt8 → Option Value) (E : List UInt8 → List Ev) (an : List UInt8) (e : Ev) (w4 : World) : Prop :=
  ∃ (f' : List UInt8 → Option Value) (c' : Nat), EvS w4 m c' f' (fun j => if j = an then E j ++ [e] else E j) ∧ c' ≤ c + 1 ∧ Fr (evB m f) w w4 ∧ ∀ i, evB m f' i → evB m f i ∨ w.heap.size ≤ i
set_option maxRecDepth 100000 in
set_option maxHeartbeats 4000000 in
theorem doev_region {w : World} {p m ob bo c : Nat} {f : List UInt8 → Option Value} {E : List UInt8 → List Ev} {an : List UInt8} {ah as_ al ocl osq okd : Int} {v0 v2 : Value} (hp : Blk w p 77 #[v0, .map (some m), v2]) (hx : Blk w bo 63 #[.string ⟨an.toArray⟩, .int .i64 ah, .int .i64 as_, .int .i64 al]) {cs : Array Value} {ot : TypeId} (hob : Blk w ob ot cs) (hobt : 65 ≠ ot) (hc0 : cs[0]? = some (.int .i64 ocl)) (hc1 : cs[1]? = some (.int .i64 osq)) (hc2 : cs[2]? = some (.int .i64 okd))
    (hev : EvS w m c f E) (hc : c < maxLen) (hnm : an.length ≤ maxLen) (hnE : (E an).length ≤ 1000000) {sl1 sl2 sl4 sl5 sl6 sl7 sl9 sl10 sl11 sl12 sl13 sl14 sl15 sl16 sl17 sl18 sl19 sl20 sl21 sl22 sl23 sl24 sl25 sl26 sl27 sl28 sl29 sl30 sl31 sl32 sl33 sl34 sl35 sl36 sl37 sl38 sl39 sl40 sl41 sl42 sl43 sl44 sl45 sl46 sl47 sl48 sl49 sl50 sl51 sl52 sl53 sl54 sl55 sl56 sl57 sl58 sl59 sl60 sl61 sl62 sl63 : Value} {Q : Exit → Act → World → Prop}
    (hQ : ∀ (wl38 wl39 wl40 wl41 wl42 wl43 wl44 wl45 wl46 wl47 wl48 wl49 wl50 wl51 wl52 wl53 wl54 wl55 wl56 wl57 wl58 wl59 wl60 wl61 : Value) (w4 : World), EvsPost w m c f E an ⟨ocl, osq, okd, ah, as_⟩ w4 → Q .normal ⟨(.pointer (some ⟨p, 0, none⟩) :: sl1 :: sl2 :: .pointer (some ⟨ob, 0, none⟩) :: sl4 :: sl5 :: sl6 :: sl7 :: .pointer (some ⟨bo, 0, none⟩) :: sl9 :: sl10 :: sl11 :: sl12 :: sl13 :: sl14 :: sl15 :: sl16 :: sl17 :: sl18 :: sl19 :: sl20 :: sl21 :: sl22 :: sl23 :: sl24 :: sl25 :: sl26 :: sl27 :: sl28 :: sl29 :: sl30 :: sl31 :: sl32 :: sl33 :: sl34 :: sl35 :: sl36 :: sl37 :: wl38 :: wl39 :: wl40 :: wl41 :: wl42 :: wl43 :: wl44 :: wl45 :: wl46 :: wl47 :: wl48 :: wl49 :: wl50 :: wl51 :: wl52 :: wl53 :: wl54 :: wl55 :: wl56 :: wl57 :: wl58 :: wl59 :: wl60 :: wl61 :: sl62 :: sl63 :: []).toArray, []⟩ w4) :
    Code.wp Tryz.prog dorg Q ⟨(.pointer (some ⟨p, 0, none⟩) :: sl1 :: sl2 :: .pointer (some ⟨ob, 0, none⟩) :: sl4 :: sl5 :: sl6 :: sl7 :: .pointer (some ⟨bo, 0, none⟩) :: sl9 :: sl10 :: sl11 :: sl12 :: sl13 :: sl14 :: sl15 :: sl16 :: sl17 :: sl18 :: sl19 :: sl20 :: sl21 :: sl22 :: sl23 :: sl24 :: sl25 :: sl26 :: sl27 :: sl28 :: sl29 :: sl30 :: sl31 :: sl32 :: sl33 :: sl34 :: sl35 :: sl36 :: sl37 :: sl38 :: sl39 :: sl40 :: sl41 :: sl42 :: sl43 :: sl44 :: sl45 :: sl46 :: sl47 :: sl48 :: sl49 :: sl50 :: sl51 :: sl52 :: sl53 :: sl54 :: sl55 :: sl56 :: sl57 :: sl58 :: sl59 :: sl60 :: sl61 :: sl62 :: sl63 :: []).toArray, []⟩ w := by
  conv => arg 2; whnf
  have HQ : Hid _ := hQ
  clear hQ
  conv => arg 2; whnf
  have HP := Lib.hid hp
  have HX := Lib.hid hx
  have HEV := Lib.hid hev
  have hsl := hev.sl an
  obtain ⟨A1, c1, hA, -, -⟩ := hsl.form
  have hlk : ∀ W, Fr No w W → (Instr.lookup 74 (.map (some m)) (.string ⟨an.toArray⟩) false).run Tryz.prog W = .ok (slOf f an) W := fun W hW => (hev.noF hW).look ⟨an.toArray⟩ hnm
  have hfe : Fr No w (w.alloc (.cells #[.int .i64 ocl, .int .i64 osq, .int .i64 okd, .int .i64 ah, .int .i64 as_] 65)).drew := Fr.drew ((Fr.refl No w).alloc _)
  have hrunA := hlk _ ((Fr.refl No w).drew)
  have hrunB := hlk _ hfe
  have hsv := fun k hk => (hev.slB an k hk).2
  obtain ⟨L, hL⟩ : ∃ L, L = E an := ⟨_, rfl⟩
  have HLL := Lib.hid hL
  rw [← hL] at hA hsl hnE
  clear hL
  rw [hA] at hrunA hrunB hsl hsv
  have HEV2 := Lib.hid (hev.noF hfe)
  have HOW2 := Lib.hid (hsl.fr hfe (fun _ _ h => h))
  have hvm : (Value.slice A1 L.length c1).ownBlock ≠ some m := fun e => hsv _ e rfl
  have HDE := Lib.hid (hp.fr hfe (fun h => h))
  have HXE := Lib.hid (hx.fr hfe (fun h => h))
  have d1 := hp.cell 1
  have x0 := hx.cell 0
  have x1 := hx.cell 1
  have x2 := hx.cell 2
  simp only [List.getElem?_toArray, List.getElem?_cons_zero, List.getElem?_cons_succ] at d1 x0 x1 x2
  have hdpl := hp.lt
  have hbol := hx.lt
  have hobl : ob < w.heap.size := hob.lt
  have HA := Lib.hid hA
  have HFE := Lib.hid hfe
  have HXX : Hid (∀ W, Fr (evB m f) w W → Fr (evB m f) w W ∧ W.cell? ⟨p, 1, none⟩ = some (.map (some m)) ∧ W.cell? ⟨bo, 0, none⟩ = some (.string ⟨an.toArray⟩) ∧ W.cell? ⟨bo, 1, none⟩ = some (.int .i64 ah) ∧ W.cell? ⟨bo, 2, none⟩ = some (.int .i64 as_) ∧ W.cell? ⟨ob, 0, none⟩ = some (.int .i64 ocl) ∧ W.cell? ⟨ob, 1, none⟩ = some (.int .i64 osq) ∧ W.cell? ⟨ob, 2, none⟩ = some (.int .i64 okd)) := fun W hW => by
    have h1 := hp.fr hW (hev.far hp (by decide))
    have h2 := hx.fr hW (hev.far hx (by decide))
    have h3 := hob.fr hW (hev.far hob (fun e => hobt e.symm))
    exact ⟨hW, h1.cell 1, h2.cell 0, h2.cell 1, h2.cell 2, (h3.cell 0).trans hc0, (h3.cell 1).trans hc1, (h3.cell 2).trans hc2⟩
  have HSB : Hid (∀ k, (Value.slice A1 L.length c1).ownBlock = some k → evB m f k) := fun k hk => (hev.slB an k (by rw [hA]; exact hk)).1
  have hk0 : Fr (evB m f) w w.drew := (Fr.refl _ w).drew
  have hk1 : Fr (evB m f) w (w.alloc (.cells #[.int .i64 ocl, .int .i64 osq, .int .i64 okd, .int .i64 ah, .int .i64 as_] 65)).drew := ((Fr.refl _ w).alloc _).drew
  clear hlk hfe hsl hsv hA hp hx hev hob d1 x0 x1 x2
  go_region_held3 (fun W => Fr (evB m f) w W ∧ W.cell? ⟨p, 1, none⟩ = some (.map (some m)) ∧ W.cell? ⟨bo, 0, none⟩ = some (.string ⟨an.toArray⟩) ∧ W.cell? ⟨bo, 1, none⟩ = some (.int .i64 ah) ∧ W.cell? ⟨bo, 2, none⟩ = some (.int .i64 as_) ∧ W.cell? ⟨ob, 0, none⟩ = some (.int .i64 ocl) ∧ W.cell? ⟨ob, 1, none⟩ = some (.int .i64 osq) ∧ W.cell? ⟨ob, 2, none⟩ = some (.int .i64 okd))
    (first
      | (with_reducible refine HXX.out _ ?_; with_reducible assumption)
      | (with_reducible refine HXX.out _ (Fr.drew (Fr.alloc ?_ _)); with_reducible first | assumption | exact Fr.refl _ w)
      | (with_reducible refine HXX.out _ (Fr.alloc ?_ _); with_reducible first | assumption | exact Fr.refl _ w)
      | (refine HXX.out _ ?_; assumption))
    (first
      | (refine step_app_ev rfl (.tmp 50) (.tmp 60) rfl HOW2.out rfl (heap_alloc_new w _) (by simp [Value.oneCell']) rfl hnE HEV2.out.tab hc ⟨an.toArray⟩ hnm hvm ?_; intro v3 w3 w4 hrun4 hown4 hf4 hl4 ht4 hf4'; have hk3 : Fr (evB m f) w w3 := hk1.trans (hf4.mono fun i _ h => HSB.out i h); have hk4 : Fr (evB m f) w w4 := hk3.trans (hf4'.mono fun _ _ h => .inl h)))
  all_goals
    have HAPP := HEV2.out.app an ⟨ocl, osq, okd, ah, as_⟩ (by rw [← HLL.out]; exact hown4) (by rw [HA.out]; exact hf4) (by rw [HA.out]; exact hl4) ht4 hf4'
    refine HQ.out _ _ _ _ _ _ _ _ _ _ _ _ _ _ _ _ _ _ _ _ _ _ _ _ _ ⟨_, _, HAPP.1, cnt_le f c an, (HFE.out.mono fun _ _ h => False.elim h).trans HAPP.2.1, fun i hi => ?_⟩
    rcases HAPP.2.2 i hi with h1 | h1
    · exact .inl h1
    · exact .inr (Nat.le_trans HFE.out.size h1)
end Go.Proofs.YtlanhclgbkhdlaaGreat
