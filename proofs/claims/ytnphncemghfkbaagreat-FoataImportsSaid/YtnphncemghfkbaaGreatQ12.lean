/- Contracts of package order: Bytes. Contracts of package pack: the reader. What readers tell of bytes that were written: plain mathematics. -/
import Derived.Test.YtnphncemghfkbaaGreatQ11
namespace Go.Proofs.YtnphncemghfkbaaGreat
open Go.RowKit Go.My Go.Maps
set_option linter.unusedSimpArgs false
set_option linter.unusedVariables false
attribute [local go_sem ↓] Go.wp_at_zero Go.wp_at_succ

theorem tB_len (s : List UInt8) : (tB s).length ≤ 10 + s.length := by
  unfold tB
  rw [List.length_append]
  have := enc_length_le (zig s.length)
  omega
def headB (o : Od) : List UInt8 := flatB [nB o.cl, nB o.sq, nB o.kd, tB o.an, tB o.pn, nB o.sum, nB (o.legs.length : Int)]
def legBy (g : Lg) : List UInt8 := tB g.nm ++ nB g.sum
def legsBy (L : List Lg) : List UInt8 := L.flatMap legBy
def tailB (o : Od) : List UInt8 := nB o.per ++ (nB o.hold ++ tB o.note.data.toList)
def bytesO (o : Od) : List UInt8 := headB o ++ legsBy o.legs ++ tailB o
theorem legsBy_take {L : List Lg} {k : Nat} (h : k < L.length) : legsBy (L.take (k + 1)) = legsBy (L.take k) ++ legBy L[k] := by
  unfold legsBy
  rw [List.take_succ_eq_append_getElem h, List.flatMap_append]
  simp
theorem name_len {l : List UInt8} (h : nameB l = true) : l.length ≤ 8 := by
  unfold nameB at h
  simp only [Bool.and_eq_true, decide_eq_true_eq] at h
  exact h.2.2
theorem rightB_lens {L : List Lg} (h : rightB L = true) : L.length ≤ 6 ∧ ∀ g ∈ L, g.nm.length ≤ 8 := by
  unfold rightB at h
  simp only [Bool.and_eq_true, decide_eq_true_eq, List.all_eq_true] at h
  exact ⟨h.1.1.2, fun g hg => name_len (h.1.2 g hg).1⟩
/-- an order that may be is short -/
structure Short (o : Od) : Prop where
  acct : o.an.length ≤ 8
  peer : o.pn.length ≤ 8
  note : o.note.data.toList.length ≤ 20
  legs : o.legs.length ≤ 6
  each : ∀ g ∈ o.legs, g.nm.length ≤ 8
theorem right_short {o : Od} (h : rightO o = true) : Short o := by
  unfold rightO at h
  simp only [Bool.and_eq_true] at h
  obtain ⟨_, _, _, h1, h2, _, h3, _, _, h4⟩ := h
  have hl : o.legs.length ≤ 6 ∧ ∀ g ∈ o.legs, g.nm.length ≤ 8 := by
    unfold legsB at h3
    split at h3
    · exact rightB_lens h3
    · have h0 : o.legs.length = 0 := by simpa using h3
      exact ⟨by omega, fun g hg => by rw [List.length_eq_zero_iff.1 h0] at hg; cases hg⟩
  refine ⟨?_, ?_, ?_, hl.1, hl.2⟩
  · unfold acctB at h1
    split at h1
    · rw [List.isEmpty_iff.1 h1]; simp
    · exact name_len h1
  · unfold peerB at h2
    split at h2
    · rw [Bool.and_eq_true] at h2; exact name_len h2.1
    · rw [List.isEmpty_iff.1 h2]; simp
  · unfold noteB at h4
    split at h4
    · simpa using h4
    · rw [List.isEmpty_iff.1 h4]; simp
theorem flatB_cons (a : List UInt8) (l : List (List UInt8)) : flatB (a :: l) = a ++ flatB l := rfl
theorem flatB_nil : flatB [] = [] := rfl
theorem head_len {o : Od} (h : Short o) : (headB o).length ≤ 86 := by
  have h1 := nB_len o.cl
  have h2 := nB_len o.sq
  have h3 := nB_len o.kd
  have h4 := tB_len o.an
  have h5 := tB_len o.pn
  have h6 := nB_len o.sum
  have h7 := nB_len (o.legs.length : Int)
  have h8 := h.acct
  have h9 := h.peer
  unfold headB
  simp only [flatB_cons, flatB_nil, List.length_append, List.length_nil]
  omega
theorem legBy_len {g : Lg} (h : g.nm.length ≤ 8) : (legBy g).length ≤ 28 := by
  have h1 := tB_len g.nm
  have h2 := nB_len g.sum
  unfold legBy
  rw [List.length_append]
  omega
theorem legsBy_len {L : List Lg} (h : ∀ g ∈ L, g.nm.length ≤ 8) : (legsBy L).length ≤ 28 * L.length := by
  induction L with
  | nil => simp [legsBy]
  | cons g r ih =>
    have h1 := legBy_len (h g List.mem_cons_self)
    have h2 := ih (fun x hx => h x (List.mem_cons_of_mem _ hx))
    show (legBy g ++ legsBy r).length ≤ _
    rw [List.length_append, List.length_cons]
    omega
def obE (o : Od) : Int := if rightO o = true then 0 else 1
def obL (o : Od) : List UInt8 := if rightO o = true then bytesO o else []
/-- bytes of the call's own, and an error -/
def RetBE (l : List UInt8) (n : Int) (w : World) (e : Ending) (w' : World) : Prop := ∃ A c, e = .returned (.tuple #[.slice A l.length c, .int .i64 n]) ∧ Own w' 5 1 (.slice A l.length c) l.length (bs l) ∧ Fr No w w'
def ObRel (w3 : World) (o : Od) (bv iv : Value) (wr : World) : Prop := ∃ (k : Nat) (A : Option Addr) (c : Nat) (l : List UInt8), k ≤ o.legs.length ∧ iv = .int .i64 k ∧ l = headB o ++ legsBy (o.legs.take k) ∧ bv = .slice A l.length c ∧ Own wr 5 1 (.slice A l.length c) l.length (bs l) ∧ Fr No w3 wr
set_option maxRecDepth 100000 in
set_option maxHeartbeats 8000000 in
theorem obytes_any (F : Nat → Prop) (o : Od) (v : Value) (w : World) (ho : o.ok) (hv : LgS w F v o.legs) :
    Calls Tryz.prog 31 #[o.val v] w (RetBE (obL o) (obE o) w) := by
  have HR := Lib.hid (fun W hW => rightO_any F o v W ho (hv.no hW))
  have HBX := Lib.hid (Blk.new w 47 (o.cs v).toArray)
  have HV := Lib.hid (fun W (hW : Fr No w W) => hv.no hW)
  have HO := Lib.hid ho
  have HOL : Hid (rightO o = false → obL o = [] ∧ obE o = 1) := fun h => by unfold obL obE; rw [h]; exact ⟨rfl, rfl⟩
  have HOT : Hid (rightO o = true → obL o = bytesO o ∧ obE o = 0 ∧ Short o) := fun h => ⟨by unfold obL; rw [if_pos h], by unfold obE; rw [if_pos h], right_short h⟩
  obtain ⟨A, c, cells, rfl, hrd, hE, hlc, hcm⟩ := hv
  have HRD := Lib.hid hrd
  have HE := Lib.hid hE
  clear ho hrd hE
  unfold Od.val at *
  obtain ⟨ocl, osq, okd, oac, ope, osm, olg, opr, ohd, ont⟩ := o
  unfold Od.cs at *
  simp only at hlc HRD HE HR HV
  go_enter Tryz.func31, Tryz.ntmps31
  go_wp2_with fail
  refine (HR.out _ ((Fr.refl _ _).alloc _)).mono ?_
  rintro e w1 ⟨rfl, hf1⟩
  have HB1 := Lib.hid (HBX.out.fr hf1 (fun h => h))
  have HF1 := Lib.hid (((Fr.refl No w).alloc _).trans hf1)
  clear HR hf1 HBX
  cases hro : rightO ⟨ocl, osq, okd, oac, ope, osm, olg, opr, ohd, ont⟩
  · obtain ⟨hl, he⟩ := HOL.out hro
    clear hro HOL HOT
    go_wp2
    go_ret2
    rw [hl, he]
    exact ⟨none, 0, rfl, Own.nil _ _ _, HF1.out⟩
  · obtain ⟨hl, he, hsh⟩ := HOT.out hro
    have HL := Lib.hid hl
    have HE2 := Lib.hid he
    have HSH := Lib.hid hsh
    obtain ⟨i1, i2, i3, i4, i5, i6, i7, i8, i9⟩ := HO.out
    have N1 := Lib.hid (fun W => onum_any ocl i1 W)
    have N2 := Lib.hid (fun W => onum_any osq i2 W)
    have N3 := Lib.hid (fun W => onum_any okd i3 W)
    have N4 := Lib.hid (fun W => ptext_any oac (by have h := hsh.acct; unfold Od.an at h; simp only at h; have : oac.size = oac.data.toList.length := rfl; omega) W)
    have N5 := Lib.hid (fun W => ptext_any ope (by have h := hsh.peer; unfold Od.pn at h; simp only at h; have : ope.size = ope.data.toList.length := rfl; omega) W)
    have N6 := Lib.hid (fun W => pnum_any osm i6 W)
    have N7 := Lib.hid (fun W => onum_any (olg.length : Int) (by have h := hsh.legs; simp only at h; unfold In64; omega) W)
    have N8 := Lib.hid (fun W => onum_any opr i7 W)
    have N9 := Lib.hid (fun W => onum_any ohd i8 W)
    have N10 := Lib.hid (fun W => ptext_any ont (by have h := hsh.note; simp only at h; have : ont.size = ont.data.toList.length := rfl; omega) W)
    have HHL : Hid ((flatB [nB ocl, nB osq, nB okd, tB oac.data.toList, tB ope.data.toList, nB osm, nB (olg.length : Int)]).length ≤ 1000) := by
      have h : (headB ⟨ocl, osq, okd, oac, ope, osm, olg, opr, ohd, ont⟩).length ≤ 86 := head_len hsh
      exact Nat.le_trans h (by omega)
    clear hro hl he HOL HOT hsh i1 i2 i3 i4 i5 i6 i7 i8 i9 HO
    have HX : Hid (∀ W, Fr No w1 W → Fr No w1 W ∧ W.cell? ⟨w.heap.size, 0, none⟩ = some (.int .i64 ocl) ∧ W.cell? ⟨w.heap.size, 1, none⟩ = some (.int .i64 osq) ∧ W.cell? ⟨w.heap.size, 2, none⟩ = some (.int .i64 okd) ∧ W.cell? ⟨w.heap.size, 3, none⟩ = some (.string oac) ∧ W.cell? ⟨w.heap.size, 4, none⟩ = some (.string ope) ∧ W.cell? ⟨w.heap.size, 5, none⟩ = some (.int .i64 osm) ∧ W.cell? ⟨w.heap.size, 6, none⟩ = some (.slice A olg.length c)) := fun W hW => by
      have h := HB1.out.fr hW (fun h => h)
      exact ⟨hW, h.cell 0, h.cell 1, h.cell 2, h.cell 3, h.cell 4, h.cell 5, h.cell 6⟩
    have HY : Hid (∀ W, Fr No w1 W → Fr No w1 W ∧ W.cell? ⟨w.heap.size, 7, none⟩ = some (.int .i64 opr) ∧ W.cell? ⟨w.heap.size, 8, none⟩ = some (.int .i64 ohd) ∧ W.cell? ⟨w.heap.size, 9, none⟩ = some (.string ont)) := fun W hW => by
      have h := HB1.out.fr hW (fun h => h)
      exact ⟨hW, h.cell 7, h.cell 8, h.cell 9⟩
    have hw1 : Fr No w1 w1.drew := (Fr.refl No w1).drew
    go_upto_region 3 with (fail)
    go_region_held3 (fun W => Fr No w1 W ∧ W.cell? ⟨w.heap.size, 0, none⟩ = some (.int .i64 ocl) ∧ W.cell? ⟨w.heap.size, 1, none⟩ = some (.int .i64 osq) ∧ W.cell? ⟨w.heap.size, 2, none⟩ = some (.int .i64 okd) ∧ W.cell? ⟨w.heap.size, 3, none⟩ = some (.string oac) ∧ W.cell? ⟨w.heap.size, 4, none⟩ = some (.string ope) ∧ W.cell? ⟨w.heap.size, 5, none⟩ = some (.int .i64 osm) ∧ W.cell? ⟨w.heap.size, 6, none⟩ = some (.slice A olg.length c))
      (first
        | (refine HX.out _ ?_; with_reducible assumption)
        | (refine HX.out _ (Fr.alloc ?_ _); with_reducible assumption))
      (first
        | (go_at_call 65; (with_reducible refine (N1.out _).mono ?_); rintro e u1 ⟨A1, c1, rfl, ho1, hf1⟩; have hg1 := Fr.trans hw1 hf1)
        | (go_at_call 65; (with_reducible refine (N2.out _).mono ?_); rintro e u2 ⟨A2, c2, rfl, ho2, hf2⟩; have hg2 := Fr.trans hg1 hf2)
        | (go_at_call 65; (with_reducible refine (N3.out _).mono ?_); rintro e u3 ⟨A3, c3, rfl, ho3, hf3⟩; have hg3 := Fr.trans hg2 hf3)
        | (go_at_call 32; (with_reducible refine (N4.out _).mono ?_); rintro e u4 ⟨A4, c4, rfl, ho4, hf4⟩; have hg4 := Fr.trans hg3 hf4)
        | (go_at_call 32; (with_reducible refine (N5.out _).mono ?_); rintro e u5 ⟨A5, c5, rfl, ho5, hf5⟩; have hg5 := Fr.trans hg4 hf5)
        | (go_at_call 62; (with_reducible refine (N6.out _).mono ?_); rintro e u6 ⟨A6, c6, rfl, ho6, hf6⟩; have hg6 := Fr.trans hg5 hf6)
        | (go_at_call 65; (with_reducible refine (N7.out _).mono ?_); rintro e u7 ⟨A7, c7, rfl, ho7, hf7⟩; have hg7 := Fr.trans hg6 hf7)
        | (go_at_call 64; have q5 := concatB_n 7 (n := 7) (LsB.seven (ownNo ho1 (hf2.trans (hf3.trans (hf4.trans (hf5.trans (hf6.trans (hf7))))))) (ownNo ho2 (hf3.trans (hf4.trans (hf5.trans (hf6.trans (hf7)))))) (ownNo ho3 (hf4.trans (hf5.trans (hf6.trans (hf7))))) (ownNo ho4 (hf5.trans (hf6.trans (hf7)))) (ownNo ho5 (hf6.trans (hf7))) (ownNo ho6 (hf7)) ho7) rfl (by decide) HHL.out; (with_reducible refine q5.mono ?_); rintro e u8 ⟨A8, c8, rfl, ho8, hf8⟩; have hg8 := Fr.trans (Fr.alloc hg7 _) hf8))
    have HO8 := Lib.hid ho8
    have HG8 := Lib.hid hg8
    obtain ⟨_, _, _, _, _, _, _, x6⟩ := HX.out _ hg8
    clear ho1 ho2 ho3 ho4 ho5 ho6 ho7 ho8 hf1 hf2 hf3 hf4 hf5 hf6 hf7 hf8 hg1 hg2 hg3 hg4 hg5 hg6 hg7 hg8 hw1
    go_wp2
    have HN0 : Hid (flatB [nB ocl, nB osq, nB okd, tB oac.data.toList, tB ope.data.toList, nB osm, nB (olg.length : Int)] = headB ⟨ocl, osq, okd, oac, ope, osm, olg, opr, ohd, ont⟩ ++ legsBy (olg.take 0)) := by show _ = _; simp only [List.take_zero, legsBy, List.flatMap_nil, List.append_nil]; rfl
    generalize flatB [nB ocl, nB osq, nB okd, tB oac.data.toList, tB ope.data.toList, nB osm, nB (olg.length : Int)] = l8 at *
    go_loopw [4, 39] (fun bv iv wr => ObRel u8 ⟨ocl, osq, okd, oac, ope, osm, olg, opr, ohd, ont⟩ bv iv wr) (fun _ iv _ => olg.length - (intOf iv).toNat)
    case atStart => exact ⟨0, A8, c8, l8, Nat.zero_le _, rfl, HN0.out, rfl, HO8.out, Fr.refl _ _⟩
    case round =>
      obtain ⟨k, Ab, cb, l, hk, rfl, hl, rfl, hown, hfr⟩ := hrel
      simp only at hk hl
      have HLN : Hid (l.length ≤ 86 + 28 * k) := by
        show _ ≤ _
        rw [hl, List.length_append]
        have h1 := head_len HSH.out
        have h2 := legsBy_len (L := olg.take k) (fun g hg => HSH.out.each g (List.mem_of_mem_take hg))
        rw [List.length_take] at h2
        have : min k olg.length = k := by omega
        rw [this] at h2
        omega
      have HLL := Lib.hid hl
      have HOWN := Lib.hid hown
      have HFR := Lib.hid hfr
      have HF := Lib.hid (HF1.out.trans (HG8.out.trans hfr))
      have hl6 : olg.length ≤ 6 := HSH.out.legs
      clear hl hown
      by_cases hlt : k < olg.length
      · obtain ⟨ad, rfl, _, hok, q0, q1⟩ := lg_at (HRD.out.fr (by omega) HF.out fun _ _ _ h => h) HE.out k hlt hlt
        have hn8 := HSH.out.each olg[k] (List.getElem_mem hlt)
        have HNX : Hid (headB ⟨ocl, osq, okd, oac, ope, osm, olg, opr, ohd, ont⟩ ++ legsBy (olg.take (k + 1)) = l ++ legBy olg[k]) := by
          show _ = _
          rw [HLL.out, legsBy_take hlt, List.append_assoc]
        generalize olg[k] = g at *
        obtain ⟨nm, sm⟩ := g
        unfold Lg.ok at hok
        unfold Lg.nm at hn8
        simp only at q0 q1 hok hn8
        have NT := Lib.hid (fun W => ptext_any nm (by have : nm.size = nm.data.toList.length := rfl; omega) W)
        have NN := Lib.hid (fun W => pnum_any sm hok.2 W)
        have HBD : Hid ((flatB [l, tB nm.data.toList, nB sm]).length ≤ 1000) := by
          show _ ≤ _
          have h1 := tB_len nm.data.toList
          have h2 := nB_len sm
          have h3 := HLN.out
          simp only [flatB_cons, flatB_nil, List.length_append, List.length_nil]
          omega
        have HNX2 : Hid (flatB [l, tB nm.data.toList, nB sm] = headB ⟨ocl, osq, okd, oac, ope, osm, olg, opr, ohd, ont⟩ ++ legsBy (olg.take (k + 1))) := by
          show _ = _
          rw [HNX.out]
          simp only [flatB_cons, flatB_nil, legBy, Lg.nm, List.append_nil]
        have hbx := Blk.new wr 92 #[.string nm, .int .i64 sm]
        have hfx : Fr No wr (wr.alloc (.cells #[.string nm, .int .i64 sm] 92)) := (Fr.refl _ _).alloc _
        clear hok hn8 HNX hfr
        go_upto_region 7 with (fail)
        generalize wr.alloc (.cells #[.string nm, .int .i64 sm] 92) = wl at *
        have HFX := Lib.hid hfx
        have HZ : Hid (∀ W, Fr No wl W → Fr No wl W ∧ W.cell? ⟨wr.heap.size, 0, none⟩ = some (.string nm) ∧ W.cell? ⟨wr.heap.size, 1, none⟩ = some (.int .i64 sm)) := fun W hW => by
          have h := hbx.fr hW (fun h => h)
          exact ⟨hW, h.cell 0, h.cell 1⟩
        have hwl : Fr No wl wl.drew := (Fr.refl No wl).drew
        clear hbx hfx q0 q1
        go_region_held3 (fun W => Fr No wl W ∧ W.cell? ⟨wr.heap.size, 0, none⟩ = some (.string nm) ∧ W.cell? ⟨wr.heap.size, 1, none⟩ = some (.int .i64 sm))
          (first
            | (refine HZ.out _ ?_; with_reducible assumption)
            | (refine HZ.out _ (Fr.alloc ?_ _); with_reducible assumption))
          (first
            | (go_at_call 32; (with_reducible refine (NT.out _).mono ?_); rintro e y1 ⟨A1, c1, rfl, ho1, hf1⟩; have hg1 := Fr.trans hwl hf1)
            | (go_at_call 62; (with_reducible refine (NN.out _).mono ?_); rintro e y2 ⟨A2, c2, rfl, ho2, hf2⟩; have hg2 := Fr.trans hg1 hf2)
            | (go_at_call 64; have q5 := concatB_n 3 (n := 3) (LsB.three (ownNo HOWN.out (HFX.out.trans hg2)) (ownNo ho1 hf2) ho2) rfl (by decide) HBD.out; (with_reducible refine q5.mono ?_); rintro e y3 ⟨A3, c3, rfl, ho3, hf3⟩; have hg3 := Fr.trans (Fr.alloc hg2 _) hf3))
        have HO3 := Lib.hid ho3
        have HG3 := Lib.hid (HFX.out.trans hg3)
        clear ho1 ho2 ho3 hf1 hf2 hf3 hg1 hg2 hg3 hwl
        go_wp2
        go_roundw
        case rel => exact ⟨k + 1, A3, c3, _, by simp only; omega, by go_num, HNX2.out, rfl, HO3.out, HFR.out.trans HG3.out⟩
        case measure => simp [intOf]; omega
      · obtain rfl : k = olg.length := by omega
        have HBD : Hid ((flatB [l, nB opr, nB ohd, tB ont.data.toList]).length ≤ 1000) := by
          show _ ≤ _
          have h1 := tB_len ont.data.toList
          have h2 := nB_len opr
          have h4 := nB_len ohd
          have h3 := HLN.out
          have h5 := HSH.out.note
          simp only at h5
          simp only [flatB_cons, flatB_nil, List.length_append, List.length_nil]
          omega
        have HFIN : Hid (flatB [l, nB opr, nB ohd, tB ont.data.toList] = obL ⟨ocl, osq, okd, oac, ope, osm, olg, opr, ohd, ont⟩) := by
          show _ = _
          rw [HL.out, HLL.out, List.take_length]
          simp only [flatB_cons, flatB_nil, List.append_nil]
          rfl
        have hwe : Fr No w1 wr.drew := (HG8.out.trans hfr).drew
        obtain ⟨_, y7, y8, y9⟩ := HY.out _ (HG8.out.trans hfr)
        clear hfr
        go_upto_region 9 with (fail)
        go_region_held3 (fun W => Fr No w1 W ∧ W.cell? ⟨w.heap.size, 7, none⟩ = some (.int .i64 opr) ∧ W.cell? ⟨w.heap.size, 8, none⟩ = some (.int .i64 ohd) ∧ W.cell? ⟨w.heap.size, 9, none⟩ = some (.string ont))
          (first
            | (refine HY.out _ ?_; with_reducible assumption)
            | (refine HY.out _ (Fr.alloc ?_ _); with_reducible assumption))
          (first
            | (go_at_call 65; (with_reducible refine (N8.out _).mono ?_); rintro e y1 ⟨A1, c1, rfl, ho1, hf1⟩; have hg1 := Fr.trans hwe hf1; have hh1 := Fr.trans (Fr.refl No wr).drew hf1)
            | (go_at_call 65; (with_reducible refine (N9.out _).mono ?_); rintro e y2 ⟨A2, c2, rfl, ho2, hf2⟩; have hg2 := Fr.trans hg1 hf2)
            | (go_at_call 32; (with_reducible refine (N10.out _).mono ?_); rintro e y3 ⟨A3, c3, rfl, ho3, hf3⟩; have hg3 := Fr.trans hg2 hf3)
            | (go_at_call 64; have q5 := concatB_n 4 (n := 4) (LsB.four (ownNo HOWN.out (hh1.trans (hf2.trans hf3))) (ownNo ho1 (hf2.trans hf3)) (ownNo ho2 hf3) ho3) rfl (by decide) HBD.out; (with_reducible refine q5.mono ?_); rintro e y4 ⟨A4, c4, rfl, ho4, hf4⟩; have hg4 := Fr.trans (Fr.alloc hg3 _) hf4))
        have HO4 := Lib.hid ho4
        have HG4 := Lib.hid (HF1.out.trans hg4)
        clear ho1 ho2 ho3 ho4 hf1 hf2 hf3 hf4 hg1 hg2 hg3 hg4 hh1 hwe y7 y8 y9
        rw [HFIN.out] at HO4
        go_wp2
        go_ret2
        rw [HFIN.out, HE2.out]
        exact ⟨A4, c4, rfl, HO4.out, HG4.out⟩
end Go.Proofs.YtnphncemghfkbaaGreat

set_option linter.unusedSimpArgs false
set_option linter.unusedVariables false
namespace Go.Proofs.YtnphncemghfkbaaGreat
open Go.RowKit Go.My

/-- a reader at p, whose bytes l lie in block q; e: its error -/
def Rdr (w : World) (p q : Nat) (l : List UInt8) (e : Nat) : Prop :=
  ∃ A c, Blk w p 99 #[.slice A l.length c, .int .i64 (e : Int)] ∧ Rd w (At1 q) 1 A l.length (bs l) ∧ l.length ≤ c ∧ c ≤ 140737488355328 ∧ p ≠ q ∧ q < w.heap.size

theorem Rdr.fr {w w' : World} {p q : Nat} {l : List UInt8} {e : Nat} {S : Nat → Prop} (h : Rdr w p q l e) (hf : Fr S w w') (hp : ¬ S p) (hq : ¬ S q) : Rdr w' p q l e := by
  obtain ⟨A, c, hb, hr, hl, hc, hne⟩ := h
  exact ⟨A, c, hb.fr hf hp, hr.fr (by omega) hf (fun k hk _ hs => hq (by rw [At1] at hk; rw [← hk]; exact hs)), hl, hc, hne.1, Nat.lt_of_lt_of_le hne.2 hf.size⟩
theorem Rdr.lt {w : World} {p q : Nat} {l : List UInt8} {e : Nat} (h : Rdr w p q l e) : p < w.heap.size := by
  obtain ⟨A, c, hb, _⟩ := h
  exact hb.lt

theorem state_nil (w : World) : Calls Tryz.prog 78 #[.pointer none] w fun e w' => e = .returned (.int .i64 1) ∧ w = w' := by
  go_enter Tryz.func78, Tryz.ntmps78
  go_wp2
  go_ret
  exact ⟨rfl, rfl⟩
theorem state_at (p q : Nat) (l : List UInt8) (e0 : Nat) (w : World) (h : Rdr w p q l e0) : Calls Tryz.prog 78 #[.pointer (some ⟨p, 0, none⟩)] w fun e w' => e = .returned (.int .i64 (e0 : Int)) ∧ w = w' := by
  obtain ⟨A, c, hb, hr, hl, hc, hne⟩ := h
  have c1 := hb.cell 1
  simp at c1
  clear hb hr hl hc hne
  go_enter Tryz.func78, Tryz.ntmps78
  go_wp2
  go_ret
  exact ⟨rfl, rfl⟩

def Ret1 (R : World → Prop) (v : Value) (e : Ending) (w' : World) : Prop := e = .returned v ∧ R w'
/-- handed back: v; the reader then holds l -/
def RetR (w : World) (p q : Nat) (v : Value) (l : List UInt8) (e0 : Nat) (e : Ending) (w' : World) : Prop := e = .returned v ∧ Rdr w' p q l e0 ∧ Fr (At1 p) w w'

theorem fail_at (p q : Nat) (l : List UInt8) (e0 k : Nat) (w : World) (h : Rdr w p q l e0) :
    Calls Tryz.prog 75 #[.pointer (some ⟨p, 0, none⟩), .int .i64 (k : Int)] w (RetR w p q (.int .i64 (k : Int)) [] k) := by
  obtain ⟨A, c, hb, hr, hl, hc, hne⟩ := h
  have c0 := hb.cell 0
  have c1 := hb.cell 1
  have f0 := hb.frozen 0
  have f1 := hb.frozen 1
  simp at c0 c1
  go_enter Tryz.func75, Tryz.ntmps75
  go_wp2
  go_ret
  refine ⟨rfl, ⟨none, 0, (hb.set_ 0 _).set_ 1 _, Rd.none_, Nat.le_refl _, by omega, hne.1, by simpa [World.setCell] using hne.2⟩, ?_⟩
  exact (fr_set _ _ _ _).trans (fr_set _ _ _ _)

theorem done_nil (w : World) : Calls Tryz.prog 50 #[.pointer none] w fun e w' => e = .returned (.int .i64 1) ∧ w = w' := by
  go_enter Tryz.func50, Tryz.ntmps50
  go_wp2_with (go_at_call 78; refine (state_nil _).mono ?_; rintro e w' ⟨rfl, rfl⟩)
  go_ret
  exact ⟨rfl, rfl⟩
/-- what Done tells -/
def doneE (l : List UInt8) (e : Nat) : Nat := if e = 0 then (if l = [] then 0 else 3) else e
theorem done_at (p q : Nat) (l : List UInt8) (e0 : Nat) (w : World) (h : Rdr w p q l e0) (he : e0 < 5) :
    Calls Tryz.prog 50 #[.pointer (some ⟨p, 0, none⟩)] w (RetR w p q (.int .i64 (doneE l e0 : Int)) (if e0 = 0 then [] else l) (doneE l e0)) := by
  have h' := h
  have hrd := h
  obtain ⟨A, c, hb, hr, hl, hc, hne⟩ := h'
  have c1 := hb.cell 0
  simp at c1
  clear hb hr hl hc hne
  by_cases h0 : e0 = 0
  · have hz : ((e0 : Int) != 0) = false := by rw [bne_eq_false_iff_eq]; omega
    have H0 := Lib.hid h0
    clear h0
    by_cases hl : l = []
    · have hl0 : ¬ (0 : Int) < l.length := by subst hl; simp
      have HL := Lib.hid hl
      clear hl
      go_enter Tryz.func50, Tryz.ntmps50
      go_wp2_with (go_at_call 78; refine (state_at p q l e0 _ h).mono ?_; rintro e w' ⟨rfl, rfl⟩)
      go_ret
      have := H0.out
      have := HL.out
      subst e0 l
      exact ⟨rfl, h, Fr.refl _ _⟩
    · have hl0 : (0 : Int) < l.length := by have := List.length_pos_iff.2 hl; omega
      have HL := Lib.hid hl
      clear hl
      go_enter Tryz.func50, Tryz.ntmps50
      go_wp2_with (first | (go_at_call 78; refine (state_at p q l e0 _ h).mono ?_; rintro e w' ⟨rfl, rfl⟩) | (go_at_call 75; refine (fail_at p q l e0 3 _ h).mono ?_; rintro e w' ⟨rfl, hr1, hf1⟩))
      go_ret
      have h0 := H0.out
      have hl := HL.out
      subst e0
      simp only [doneE, if_true, if_neg hl]
      exact ⟨rfl, hr1, hf1⟩
  · have hz : ((e0 : Int) != 0) = true := by rw [bne_iff_ne]; omega
    have H0 := Lib.hid h0
    clear h0
    go_enter Tryz.func50, Tryz.ntmps50
    go_wp2_with (go_at_call 78; refine (state_at p q l e0 _ h).mono ?_; rintro e w' ⟨rfl, rfl⟩)
    go_ret
    have hn0 := H0.out
    simp only [doneE, if_neg hn0]
    exact ⟨rfl, hrd, Fr.refl _ _⟩

theorem and_one (m : Nat) (h : m < 18446744073709551616) : bits .and .u64 (m : Int) 1 = ((m % 2 : Nat) : Int) := by
  have e : bits .and .u64 (m : Int) ((1 : Nat) : Int) = ((m &&& 1 : Nat) : Int) := u64_and_nat m 1 h (by omega)
  rw [Nat.and_one_is_mod] at e
  exact e
theorem xor_zero_i64 (x : Int) (h1 : -9223372036854775808 ≤ x) (h2 : x ≤ 9223372036854775807) : bits .xor .i64 x 0 = x := by
  show IntKind.i64.wrap ((BitVec.ofInt 64 x ^^^ BitVec.ofInt 64 0).toNat : Int) = _
  have e : BitVec.ofInt 64 0 = 0#64 := rfl
  rw [e, BitVec.xor_zero, BitVec.toNat_ofInt, IntKind.wrap_i64]
  omega
theorem xor_ones_i64 (x : Int) (h1 : -9223372036854775808 ≤ x) (h2 : x ≤ 9223372036854775807) : bits .xor .i64 x (-1) = -x - 1 := by
  show IntKind.i64.wrap ((BitVec.ofInt 64 x ^^^ BitVec.ofInt 64 (-1)).toNat : Int) = _
  have e : BitVec.ofInt 64 (-1) = BitVec.allOnes 64 := by decide
  rw [e, BitVec.xor_allOnes, BitVec.toNat_not, BitVec.toNat_ofInt, IntKind.wrap_i64]
  omega
theorem zag_eq (m : Nat) (h : m < 18446744073709551616) : bits .xor .i64 (wrap64 ((m : Int) / 2)) (wrap64 (-wrap64 (bits .and .u64 (m : Int) 1))) = zag m := by
  rw [and_one m h]
  have e1 : wrap64 ((m : Int) / 2) = (m : Int) / 2 := IntWalk.wrap64_in _ ⟨by omega, by omega⟩
  have e2 : wrap64 ((m % 2 : Nat) : Int) = ((m % 2 : Nat) : Int) := IntWalk.wrap64_in _ ⟨by omega, by omega⟩
  have e3 : wrap64 (-((m % 2 : Nat) : Int)) = -((m % 2 : Nat) : Int) := IntWalk.wrap64_in _ ⟨by omega, by omega⟩
  rw [e1, e2, e3]
  unfold zag
  by_cases hm : m % 2 = 0
  · rw [if_pos hm, hm]
    have := xor_zero_i64 ((m : Int) / 2) (by omega) (by omega)
    simpa using this
  · rw [if_neg hm]
    have e : m % 2 = 1 := by omega
    rw [e]
    have := xor_ones_i64 ((m : Int) / 2) (by omega) (by omega)
    rw [show (-((1 : Nat) : Int)) = -1 from rfl, this]
    omega

theorem rdr_cut {w : World} {p q : Nat} {l : List UInt8} {e : Nat} {A : Option Addr} {c n : Nat} {X : Option Addr} {L C : Nat} (hb : Blk w p 99 #[.slice A l.length c, .int .i64 (e : Int)]) (hr : Rd w (At1 q) 1 A l.length (bs l))
    (hl : l.length ≤ c) (hc : c ≤ 140737488355328) (hne : p ≠ q ∧ q < w.heap.size) (hn : n ≤ l.length) (hX : X = if c = n then A else A.map (·.add n)) (hL : L = l.length - n) (hC : C = c - n) :
    Rdr (w.setCell ⟨p, 0, none⟩ (.slice X L C)) p q (l.drop n) e := by
  have hcut := hr.cut (k := n) (cap := c) hn hl
  have e1 : l.length - n = (l.drop n).length := by simp
  rw [Nat.mul_one, ← bs_drop, e1] at hcut
  subst hX hL hC
  rw [e1]
  exact ⟨_, _, hb.set_ 0 _, hcut.fr (by omega) (fr_set _ _ _ _) (fun k hk _ hs => hne.1 (by rw [At1] at hk hs; omega)), by rw [← e1]; omega, by omega, hne.1, by simpa [World.setCell] using hne.2⟩

/-- what Num tells, and what it leaves -/
def rnum (l : List UInt8) (e : Nat) : Int × Nat × List UInt8 :=
  if e ≠ 0 then (0, e, l) else if (dec l).2.2 ≠ 0 then (0, (dec l).2.2, []) else (zag (dec l).1, 0, l.drop (dec l).2.1)
/-- a number and an error -/
def two (a : Int) (e : Nat) : Value := .tuple #[.int .i64 a, .int .i64 (e : Int)]

theorem num_nil (w : World) : Calls Tryz.prog 74 #[.pointer none] w fun e w' => e = .returned (two 0 1) ∧ w = w' := by
  go_enter Tryz.func74, Tryz.ntmps74
  go_wp2_with (go_at_call 78; refine (state_nil _).mono ?_; rintro e w' ⟨rfl, rfl⟩)
  go_ret2
  exact ⟨rfl, rfl⟩

set_option maxHeartbeats 400000 in
theorem rnum_at (p q : Nat) (l : List UInt8) (e0 : Nat) (w : World) (h : Rdr w p q l e0) (he : e0 < 5) :
    Calls Tryz.prog 74 #[.pointer (some ⟨p, 0, none⟩)] w (RetR w p q (two (rnum l e0).1 (rnum l e0).2.1) (rnum l e0).2.2 (rnum l e0).2.1) := by
  have h' := h
  obtain ⟨A, c, hb, hr, hl, hc, hne⟩ := h'
  by_cases h0 : e0 = 0
  · have hz : ((e0 : Int) != 0) = false := by rw [bne_eq_false_iff_eq]; omega
    have c0 := hb.cell 0
    simp at c0
    have f0 := hb.frozen 0
    have hfst := first_any (At1 q) A c l w hr (by omega)
    have HF := Lib.hid hfst
    have H0 := Lib.hid h0
    have hdl := dec_le l
    have hdt := dec_lt l
    clear h0 hfst
    generalize hd : dec l = d at HF hdl hdt
    by_cases hd0 : d.2.2 = 0
    · have hz2 : ((d.2.2 : Int) != 0) = false := by rw [bne_eq_false_iff_eq]; omega
      have HD0 := Lib.hid hd0
      have HD := Lib.hid hd
      have HT := Lib.hid hdt
      clear hd0 hd hdt
      obtain ⟨m, n, k⟩ := d
      simp only at HF hdl HT hz2 HD0
      have hlc : l.length ≤ 9223372036854775807 := by omega
      have hzag := zag_eq m HT.out
      have HL := Lib.hid hl
      have HC := Lib.hid hc
      clear hl hc
      go_enter Tryz.func74, Tryz.ntmps74
      go_wp2_with (first | (go_at_call 78; refine (state_at p q l e0 _ h).mono ?_; rintro e w' ⟨rfl, rfl⟩) | (go_at_call 107; refine HF.out.mono ?_; rintro e w' ⟨rfl, rfl⟩))
      all_goals
        go_ret2
        have h0 := H0.out
        have hd := HD.out
        have hk := HD0.out
        subst e0
        subst hk
        have hcut := hr.cut (k := n) (cap := c) hdl HL.out
        have hl := HL.out
        have hc := HC.out
        have e : l.length - n = (l.drop n).length := by simp
        simp only [rnum, ne_eq, not_true_eq_false, if_false, hd]
        rw [Nat.mul_one, ← bs_drop, e] at hcut
        have hfin : ∀ X L C v, X = (if c = n then A else A.map (·.add n)) → L = (l.drop n).length → C = c - n → v = two (zag m) 0 →
            RetR w p q (two (zag m) 0) (l.drop n) 0 (.returned v) (w.setCell ⟨p, 0, none⟩ (.slice X L C)) := by
          rintro X L C v rfl rfl rfl rfl
          exact ⟨rfl, ⟨_, _, hb.set_ 0 _, hcut.fr (by omega) (fr_set _ _ _ _) (fun k hk _ hs => hne.1 (by rw [At1] at hk hs; omega)), by rw [← e]; omega, by omega, hne.1, by simpa [World.setCell] using hne.2⟩, fr_set _ _ _ _⟩
        first
          | exact hfin _ _ _ _ (by rw [if_pos (by assumption)]) e (by omega) rfl
          | exact hfin _ _ _ _ (by rw [if_neg (by assumption)]) e (by omega) rfl
    · have hz2 : ((d.2.2 : Int) != 0) = true := by rw [bne_iff_ne]; omega
      have HD0 := Lib.hid hd0
      have HD := Lib.hid hd
      clear hd0 hd
      go_enter Tryz.func74, Tryz.ntmps74
      go_wp2_with (first | (go_at_call 78; refine (state_at p q l e0 _ h).mono ?_; rintro e w' ⟨rfl, rfl⟩) | (go_at_call 107; refine HF.out.mono ?_; rintro e w' ⟨rfl, rfl⟩) | (go_at_call 75; refine (fail_at p q l e0 _ _ h).mono ?_; rintro e w' ⟨rfl, hr1, hf1⟩))
      go_ret2
      have h0 := H0.out
      have hd := HD.out
      have hd0 := HD0.out
      simp only [rnum, h0, hd, ne_eq, not_true_eq_false, if_false, hd0, not_false_eq_true, if_true]
      exact ⟨rfl, hr1, hf1⟩
  · have hz : ((e0 : Int) != 0) = true := by rw [bne_iff_ne]; omega
    have H0 := Lib.hid h0
    clear h0 hb hr hl hc hne
    go_enter Tryz.func74, Tryz.ntmps74
    go_wp2_with (go_at_call 78; refine (state_at p q l e0 _ h).mono ?_; rintro e w' ⟨rfl, rfl⟩)
    go_ret2
    have hn0 := H0.out
    simp only [rnum, ne_eq, hn0, not_false_eq_true, if_true]
    exact ⟨rfl, h, Fr.refl _ _⟩

set_option maxRecDepth 100000 in
theorem u8zero : ∀ i, Tryz.prog.info? 5 = some i → i.zero = some (.int .u8 0) := by
  have h : (Tryz.prog.info? 5).map (fun i => (i.zero, i.size, i.bytes)) = some (some (.int .u8 0), 1, 1) := by kernel_rfl
  obtain ⟨i, hi, hz, _⟩ := info_parts h
  intro j hj
  rw [hi] at hj
  injection hj with hj
  rw [← hj]
  exact hz

theorem u8size : (Tryz.prog.info? 5).map (·.size) = some 1 := by kernel_rfl

/-- handed back: a new reader of l -/
def RetNew (w : World) (l : List UInt8) (e : Ending) (w' : World) : Prop :=
  ∃ p q, e = .returned (.pointer (some ⟨p, 0, none⟩)) ∧ Rdr w' p q l 0 ∧ Fr No w w' ∧ w.heap.size ≤ p ∧ w.heap.size ≤ q

set_option maxHeartbeats 400000 in
theorem pknew_any (F : Nat → Prop) (A : Option Addr) (c : Nat) (l : List UInt8) (w : World) (hr : Rd w F 1 A l.length (bs l)) (hsz : l.length ≤ 140737488355328) :
    Calls Tryz.prog 47 #[.slice A l.length c] w (RetNew w l) := by
  have hmk := fun W => run_make1 (P := Tryz.prog) elB u8zero rfl .i64 .i64 l.length (by omega) (by simp only [maxLen]; omega) W
  have hr1 := rd_lt hr (by omega)
  have HR := Lib.hid hr1
  have HS := Lib.hid hsz
  clear hr hr1 hsz
  go_enter Tryz.func47, Tryz.ntmps47
  go_wp2_with (refine wpList_copy_splice rfl (.tmp 7) (.tmp 8) 25 25 rfl 5 Tryz.underlying25 u8size _ A l.length l.length l.length c rfl rfl w.heap.size 0 (zrow l.length (.int .u8 0)) 5 ?h0 (bs l) ?h1 ?h2 ?h3 (bs_one l) w.heap.size w ?h4 (Nat.le_refl _) ?_; (case h0 => exact heap_alloc_new w _); (case h1 => (rw [bs_length]; exact (Nat.min_self _).symm)); (case h2 => (intro h0; rw [bs_length] at h0; obtain ⟨ad, hA, hb, hc⟩ := HR.out.2 h0; exact ⟨rfl, ad, hA, fun j v hv => (World.cell?_alloc_lt w _ _ (by rw [block_of_add]; exact hb)).trans (hc j v hv)⟩)); (case h3 => (rw [bs_length, zrow_length]; omega)); (case h4 => exact (Below.refl _ _).alloc (Nat.le_refl _) _); intro w2 HG hB)
  go_ret
  have hG := HG.out
  rw [splice_all _ _ (by rw [zrow_length, bs_length])] at hG
  have hq : w.heap.size < w2.heap.size := Blk.lt hG
  refine ⟨w2.heap.size, w.heap.size, rfl, ⟨some ⟨w.heap.size, 0, none⟩, l.length, Blk.new w2 _ _, ?_, Nat.le_refl _, HS.out, by omega, by simp; omega⟩, (Fr.of_below hB No).alloc _, by omega, Nat.le_refl _⟩
  refine ⟨by rw [bs_length]; simp, fun _ => ⟨_, rfl, rfl, ?_⟩⟩
  intro j u hu
  rw [add_zero, World.cell?_alloc_lt _ _ _ hq, Blk.cell hG]
  simpa using hu

theorem pknew_rd (F : Nat → Prop) (A : Option Addr) (n c : Nat) (l : List UInt8) (w : World) (hn : l.length = n) (hr : Rd w F 1 A n (bs l)) (hsz : n ≤ 140737488355328) :
    Calls Tryz.prog 47 #[.slice A n c] w (RetNew w l) := by
  subst hn
  exact pknew_any F A c l w hr hsz

theorem rnum_err (l : List UInt8) (e : Nat) (he : e < 5) : (rnum l e).2.1 < 5 := by
  unfold rnum
  split
  · exact he
  · split
    · exact dec_err_lt l
    · simp
theorem rnum_bd (l : List UInt8) (e : Nat) : -9223372036854775808 ≤ (rnum l e).1 ∧ (rnum l e).1 ≤ 9223372036854775807 := by
  unfold rnum
  split
  · simp
  · split
    · simp
    · exact zag_bd _ (dec_lt l)

/-- what Range tells, and what it leaves -/
def rrange (lo hi : Int) (l : List UInt8) (e : Nat) : Int × Nat × List UInt8 :=
  if (rnum l e).2.1 ≠ 0 then (0, (rnum l e).2.1, (rnum l e).2.2) else if (rnum l e).1 < lo ∨ hi < (rnum l e).1 then (0, 3, []) else rnum l e

theorem range_nil (lo hi : Int) (w : World) : Calls Tryz.prog 48 #[.pointer none, .int .i64 lo, .int .i64 hi] w fun e w' => e = .returned (two 0 1) ∧ w = w' := by
  go_enter Tryz.func48, Tryz.ntmps48
  go_wp2_with (go_at_call 74; refine (num_nil _).mono ?_; rintro e w' ⟨rfl, rfl⟩; unfold two)
  go_ret2
  exact ⟨rfl, rfl⟩

set_option maxHeartbeats 400000 in
theorem rrange_at (p q : Nat) (lo hi : Int) (l : List UInt8) (e0 : Nat) (w : World) (h : Rdr w p q l e0) (he : e0 < 5) :
    Calls Tryz.prog 48 #[.pointer (some ⟨p, 0, none⟩), .int .i64 lo, .int .i64 hi] w (RetR w p q (two (rrange lo hi l e0).1 (rrange lo hi l e0).2.1) (rrange lo hi l e0).2.2 (rrange lo hi l e0).2.1) := by
  have hn := rnum_at p q l e0 w h he
  have hlt := rnum_err l e0 he
  unfold rrange
  generalize rnum l e0 = r at hn hlt ⊢
  obtain ⟨v, k, l'⟩ := r
  simp only at hn hlt ⊢
  have HN := Lib.hid hn
  clear hn h
  by_cases hk : k = 0
  · have hz : ((k : Int) != 0) = false := by rw [bne_eq_false_iff_eq]; omega
    have HK := Lib.hid hk
    clear hk
    by_cases h1 : v < lo
    · go_enter Tryz.func48, Tryz.ntmps48
      go_wp2_with (first | (go_at_call 74; refine HN.out.mono ?_; rintro e w1 ⟨rfl, hr1, hf1⟩; unfold two) | (go_at_call 75; refine (fail_at p q _ _ 3 _ hr1).mono ?_; rintro e w2 ⟨rfl, hr2, hf2⟩))
      go_ret2
      have hk := HK.out
      subst hk
      simp only [ne_eq, not_true_eq_false, if_false, h1, true_or, if_true]
      exact ⟨rfl, hr2, hf1.trans hf2⟩
    · by_cases h2 : hi < v
      · go_enter Tryz.func48, Tryz.ntmps48
        go_wp2_with (first | (go_at_call 74; refine HN.out.mono ?_; rintro e w1 ⟨rfl, hr1, hf1⟩; unfold two) | (go_at_call 75; refine (fail_at p q _ _ 3 _ hr1).mono ?_; rintro e w2 ⟨rfl, hr2, hf2⟩))
        go_ret2
        have hk := HK.out
        subst hk
        have hc : v < lo ∨ hi < v := .inr h2
        simp only [ne_eq, not_true_eq_false, if_false, hc, if_true]
        exact ⟨rfl, hr2, hf1.trans hf2⟩
      · go_enter Tryz.func48, Tryz.ntmps48
        go_wp2_with (go_at_call 74; refine HN.out.mono ?_; rintro e w1 ⟨rfl, hr1, hf1⟩; unfold two)
        go_ret2
        have hk := HK.out
        subst hk
        have hc : ¬ (v < lo ∨ hi < v) := by omega
        simp only [ne_eq, not_true_eq_false, if_false, hc]
        exact ⟨rfl, hr1, hf1⟩
  · have hz : ((k : Int) != 0) = true := by rw [bne_iff_ne]; omega
    have HK := Lib.hid hk
    clear hk
    go_enter Tryz.func48, Tryz.ntmps48
    go_wp2_with (go_at_call 74; refine HN.out.mono ?_; rintro e w1 ⟨rfl, hr1, hf1⟩; unfold two)
    go_ret2
    have hk := HK.out
    simp only [ne_eq, hk, not_false_eq_true, if_true]
    exact ⟨rfl, hr1, hf1⟩

theorem rrange_err (lo hi : Int) (l : List UInt8) (e : Nat) (he : e < 5) : (rrange lo hi l e).2.1 < 5 := by
  have := rnum_err l e he
  unfold rrange
  split
  · exact this
  · split
    · simp
    · exact this
theorem rrange_ok (lo hi : Int) (l : List UInt8) (e : Nat) (h : (rrange lo hi l e).2.1 = 0) : rrange lo hi l e = rnum l e ∧ lo ≤ (rnum l e).1 ∧ (rnum l e).1 ≤ hi := by
  unfold rrange at h ⊢
  split at h
  · rename_i h0
    exact absurd h h0
  · split at h
    · simp at h
    · rename_i h0 h1
      rw [if_neg h0, if_neg h1]
      exact ⟨rfl, by omega, by omega⟩

/-- what Text tells, and what it leaves -/
def rtext (most : Int) (l : List UInt8) (e : Nat) : List UInt8 × Nat × List UInt8 :=
  if (rrange 0 most l e).2.1 ≠ 0 then ([], (rrange 0 most l e).2.1, (rrange 0 most l e).2.2)
  else if (rrange 0 most l e).2.2.length < (rrange 0 most l e).1 then ([], 4, [])
  else ((rrange 0 most l e).2.2.take (rrange 0 most l e).1.toNat, 0, (rrange 0 most l e).2.2.drop (rrange 0 most l e).1.toNat)

def twoS (s : List UInt8) (e : Nat) : Value := .tuple #[.string ⟨s.toArray⟩, .int .i64 (e : Int)]

theorem text_nil (most : Int) (w : World) : Calls Tryz.prog 76 #[.pointer none, .int .i64 most] w fun e w' => e = .returned (twoS [] 1) ∧ w = w' := by
  go_enter Tryz.func76, Tryz.ntmps76
  go_wp2_with (go_at_call 48; refine (range_nil _ _ _).mono ?_; rintro e w' ⟨rfl, rfl⟩; unfold two)
  go_ret2
  exact ⟨rfl, rfl⟩

set_option maxHeartbeats 400000 in
set_option maxRecDepth 100000 in
theorem rtext_at (p q : Nat) (most : Int) (l : List UInt8) (e0 : Nat) (w : World) (h : Rdr w p q l e0) (he : e0 < 5) :
    Calls Tryz.prog 76 #[.pointer (some ⟨p, 0, none⟩), .int .i64 most] w (RetR w p q (twoS (rtext most l e0).1 (rtext most l e0).2.1) (rtext most l e0).2.2 (rtext most l e0).2.1) := by
  have hn := rrange_at p q 0 most l e0 w h he
  have hlt := rrange_err 0 most l e0 he
  have hok := rrange_ok 0 most l e0
  unfold rtext
  generalize rrange 0 most l e0 = r at hn hlt hok ⊢
  obtain ⟨v, k, l'⟩ := r
  simp only at hn hlt hok ⊢
  have HN := Lib.hid hn
  clear hn h
  by_cases hk : k = 0
  · have hz : ((k : Int) != 0) = false := by rw [bne_eq_false_iff_eq]; omega
    obtain ⟨hv, hv0, hv1⟩ := hok hk
    have hvv : v = (rnum l e0).1 := by rw [← hv]
    rw [← hvv] at hv0
    have hbd := (rnum_bd l e0).2
    rw [← hvv] at hbd
    have HK := Lib.hid hk
    clear hk hok hv hv1 hvv
    by_cases h1 : l'.length < v
    · have HH := Lib.hid h1
      go_enter Tryz.func76, Tryz.ntmps76
      go_wp2_with (first | (go_at_call 48; refine HN.out.mono ?_; rintro e w1 ⟨rfl, hr1, hf1⟩; (have hr1' := hr1; obtain ⟨A, c, hb, hr, hl, hc, hne⟩ := hr1'; have c0 := hb.cell 0; simp at c0; clear hb hr hl hc hne; unfold two)) | (go_at_call 75; refine (fail_at p q _ _ 4 _ hr1).mono ?_; rintro e w2 ⟨rfl, hr2, hf2⟩))
      go_ret2
      have hk := HK.out
      subst hk
      simp only [ne_eq, not_true_eq_false, if_false, h1, if_true]
      exact ⟨rfl, hr2, hf1.trans hf2⟩
    · obtain ⟨n, rfl⟩ := Int.eq_ofNat_of_zero_le hv0
      have hnl : n ≤ l'.length := by omega
      go_enter Tryz.func76, Tryz.ntmps76
      go_wp2_with (first | (go_at_call 48; refine HN.out.mono ?_; rintro e w1 ⟨rfl, hr1, hf1⟩; (obtain ⟨A, c, hb, hr, hl, hc, hne⟩ := hr1; have c0 := hb.cell 0; have f0 := hb.frozen 0; simp at c0; have hcv := run_str_of_bytes (P := Tryz.prog) (c := c) 25 9 5 Tryz.underlying25 Tryz.underlying5 Tryz.underlying9 (show Rd w1 (At1 q) 1 A n (bs (l'.take n)) by rw [bs_take]; simpa using hr.take hnl); unfold two)))
      all_goals
        go_ret2
        have hk := HK.out
        subst hk
        refine ⟨rfl, ?_, hf1.trans (fr_set _ _ _ _)⟩
        first
          | exact rdr_cut hb hr hl hc hne hnl (by rw [if_pos (by assumption)]) rfl (by omega)
          | exact rdr_cut hb hr hl hc hne hnl (by rw [if_neg (by assumption)]) rfl (by omega)
  · have hz : ((k : Int) != 0) = true := by rw [bne_iff_ne]; omega
    have HK := Lib.hid hk
    clear hk hok
    go_enter Tryz.func76, Tryz.ntmps76
    go_wp2_with (go_at_call 48; refine HN.out.mono ?_; rintro e w1 ⟨rfl, hr1, hf1⟩; unfold two)
    go_ret2
    have hk := HK.out
    simp only [ne_eq, hk, not_false_eq_true, if_true]
    exact ⟨rfl, hr1, hf1⟩

/-- what Nums reads behind the count: k numbers -/
def rmany : Nat → List UInt8 → Nat → List Int × Nat × List UInt8
  | 0, l, e => ([], e, l)
  | k + 1, l, e => if (rnum l e).2.1 ≠ 0 then ([], (rnum l e).2.1, (rnum l e).2.2) else
      if (rmany k (rnum l e).2.2 0).2.1 ≠ 0 then ([], (rmany k (rnum l e).2.2 0).2) else ((rnum l e).1 :: (rmany k (rnum l e).2.2 0).1, (rmany k (rnum l e).2.2 0).2)
/-- what Nums tells, and what it leaves -/
def rnums (most : Int) (l : List UInt8) (e : Nat) : List Int × Nat × List UInt8 :=
  if (rrange 0 most l e).2.1 ≠ 0 then ([], (rrange 0 most l e).2.1, (rrange 0 most l e).2.2)
  else rmany (rrange 0 most l e).1.toNat (rrange 0 most l e).2.2 0

theorem rmany_err (k : Nat) : ∀ (l : List UInt8) (e : Nat), e < 5 → (rmany k l e).2.1 < 5 := by
  induction k with
  | zero => intro l e he; simpa [rmany] using he
  | succ k ih =>
    intro l e he
    have h1 := rnum_err l e he
    have h2 := ih (rnum l e).2.2 0 (by omega)
    unfold rmany
    split
    · exact h1
    · split <;> exact h2
theorem rnums_err (most : Int) (l : List UInt8) (e : Nat) (he : e < 5) : (rnums most l e).2.1 < 5 := by
  unfold rnums
  split
  · exact rrange_err 0 most l e he
  · exact rmany_err _ _ _ (by omega)
theorem rnum_len (l : List UInt8) (h : (rnum l 0).2.1 = 0) : (rnum l 0).2.2.length < l.length := by
  unfold rnum at h ⊢
  simp only [ne_eq, not_true_eq_false, if_false] at h ⊢
  split at h
  · rename_i h0
    exact absurd h h0
  · rename_i h0
    rw [if_neg h0]
    have hd : (dec l).2.2 = 0 := by simpa using h0
    obtain ⟨h1, h2, _⟩ := dec_only l (dec l).1 (dec l).2.1 (by rw [← hd])
    simp only [List.length_drop]
    omega
theorem rmany_len (k : Nat) : ∀ (l : List UInt8), (rmany k l 0).1.length ≤ l.length := by
  induction k with
  | zero => intro l; simp [rmany]
  | succ k ih =>
    intro l
    unfold rmany
    split
    · simp
    · rename_i h
      have := rnum_len l (by simpa using h)
      have := ih (rnum l 0).2.2
      split
      · simp
      · simp only [List.length_cons]
        omega
theorem rmany_i64 (k : Nat) : ∀ (l : List UInt8) (e : Nat), I64s (rmany k l e).1 := by
  induction k with
  | zero => intro l e x hx; simp [rmany] at hx
  | succ k ih =>
    intro l e
    unfold rmany
    split
    · intro x hx; simp at hx
    · split
      · intro x hx; simp at hx
      · intro x hx
        simp only [List.mem_cons] at hx
        rcases hx with rfl | hx
        · exact rnum_bd l e
        · exact ih _ _ x hx

/-- handed back: a list of the call's own, and an error; the reader then holds l -/
def RetNs (w : World) (p q : Nat) (xs : List Int) (l : List UInt8) (e0 : Nat) (e : Ending) (w' : World) : Prop :=
  ∃ v, e = .returned (.tuple #[v, .int .i64 (e0 : Int)]) ∧ Own w' 2 1 v xs.length (is_ xs) ∧ Rdr w' p q l e0 ∧ Fr (At1 p) w w' ∧ Newer w.heap.size none v.ownBlock

theorem rmany_ok (m : Nat) (l : List UInt8) (h : (rnum l 0).2.1 = 0) (xs : List Int) :
    (if (rmany (m + 1) l 0).2.1 ≠ 0 then (([], (rmany (m + 1) l 0).2) : List Int × Nat × List UInt8) else (xs ++ (rmany (m + 1) l 0).1, (rmany (m + 1) l 0).2)) =
      if (rmany m (rnum l 0).2.2 0).2.1 ≠ 0 then ([], (rmany m (rnum l 0).2.2 0).2) else ((xs ++ [(rnum l 0).1]) ++ (rmany m (rnum l 0).2.2 0).1, (rmany m (rnum l 0).2.2 0).2) := by
  have e : rmany (m + 1) l 0 = if (rmany m (rnum l 0).2.2 0).2.1 ≠ 0 then ([], (rmany m (rnum l 0).2.2 0).2) else ((rnum l 0).1 :: (rmany m (rnum l 0).2.2 0).1, (rmany m (rnum l 0).2.2 0).2) := by
    rw [rmany, if_neg (by simpa using h)]
  rw [e]
  by_cases h1 : (rmany m (rnum l 0).2.2 0).2.1 = 0
  · simp [h1]
  · simp [h1]
theorem rmany_bad (m : Nat) (l : List UInt8) (h : (rnum l 0).2.1 ≠ 0) : rmany (m + 1) l 0 = ([], (rnum l 0).2.1, (rnum l 0).2.2) := by
  rw [rmany, if_pos h]

/-- Nums' loop: k are read, n are to come -/
def NumsLoop (w : World) (p q : Nat) (N : Nat) (res : List Int × Nat × List UInt8) (v i : Value) (wr : World) : Prop :=
  ∃ (k : Nat) (xs : List Int) (l : List UInt8), k ≤ N ∧ i = .int .i64 k ∧ Own wr 2 1 v xs.length (is_ xs) ∧ Rdr wr p q l 0 ∧ Fr (At1 p) w wr ∧ Newer w.heap.size none v.ownBlock ∧ v.ownBlock ≠ some q ∧
    xs.length ≤ 17592186044416 - l.length ∧ l.length ≤ 17592186044416 ∧
    res = (if (rmany (N - k) l 0).2.1 ≠ 0 then ([], (rmany (N - k) l 0).2) else (xs ++ (rmany (N - k) l 0).1, (rmany (N - k) l 0).2))

end Go.Proofs.YtnphncemghfkbaaGreat

namespace Go.Proofs.YtnphncemghfkbaaGreat
open Go.RowKit Go.My
set_option linter.unusedSimpArgs false
set_option linter.unusedVariables false

theorem rnum_enc (x : Int) (rest : List UInt8) (h : -9223372036854775808 ≤ x ∧ x ≤ 9223372036854775807) : rnum (enc (zig x) ++ rest) 0 = (x, 0, rest) := by
  have hd := dec_enc (zig x) rest (zig_lt x h.1 h.2)
  unfold rnum
  rw [hd]
  simp [zag_zig]
theorem rnum_torn (x : Int) (k : Nat) (h : k < (enc (zig x)).length) : rnum ((enc (zig x)).take k) 0 = (0, 4, []) := by
  have hd := dec_torn (zig x) k h
  unfold rnum
  rw [hd]
  simp
theorem rnum_only (l : List UInt8) (h : (rnum l 0).2.1 = 0) : l = enc (zig (rnum l 0).1) ++ (rnum l 0).2.2 := by
  unfold rnum at h ⊢
  simp only [ne_eq, not_true_eq_false, if_false] at h ⊢
  split at h
  · rename_i h0; exact absurd h h0
  · rename_i h0
    rw [if_neg h0]
    have hd : (dec l).2.2 = 0 := by simpa using h0
    obtain ⟨_, _, h3, _⟩ := dec_only l (dec l).1 (dec l).2.1 (by rw [← hd])
    rw [zig_zag, ← h3]
    simp
theorem rnum_bad (l : List UInt8) (h : (rnum l 0).2.1 ≠ 0) : (rnum l 0).2.2 = [] := by
  unfold rnum at h ⊢
  simp only [ne_eq, not_true_eq_false, if_false] at h ⊢
  split at h
  · rename_i h0; rw [if_pos h0]
  · simp at h
theorem rrange_bad (lo hi : Int) (l : List UInt8) (h : (rrange lo hi l 0).2.1 ≠ 0) : (rrange lo hi l 0).2.2 = [] := by
  unfold rrange at h ⊢
  split at h
  · rename_i h0; rw [if_pos h0]; exact rnum_bad l h0
  · rename_i h0
    rw [if_neg h0]
    split at h
    · rename_i h1; rw [if_pos h1]
    · rename_i h1; exact absurd h h0
theorem rmany_bad_rest (k : Nat) : ∀ l : List UInt8, (rmany k l 0).2.1 ≠ 0 → (rmany k l 0).2.2 = [] ∧ (rmany k l 0).1 = [] := by
  induction k with
  | zero => intro l h; simp [rmany] at h
  | succ k ih =>
    intro l h
    unfold rmany at h ⊢
    split at h
    · rename_i h0; rw [if_pos h0]; exact ⟨rnum_bad l h0, rfl⟩
    · rename_i h0
      rw [if_neg h0]
      split at h
      · rename_i h1; rw [if_pos h1]; exact ⟨(ih _ h1).1, rfl⟩
      · rename_i h1; exact absurd h h1
theorem rnums_bad (most : Int) (l : List UInt8) (h : (rnums most l 0).2.1 ≠ 0) : (rnums most l 0).2.2 = [] ∧ (rnums most l 0).1 = [] := by
  unfold rnums at h ⊢
  split at h
  · rename_i h0; rw [if_pos h0]; exact ⟨rrange_bad _ _ l h0, rfl⟩
  · rename_i h0; rw [if_neg h0]; exact rmany_bad_rest _ _ h
theorem rmany_only (k : Nat) : ∀ l : List UInt8, (rmany k l 0).2.1 = 0 → (rmany k l 0).1.length = k ∧ l = encs (rmany k l 0).1 ++ (rmany k l 0).2.2 := by
  induction k with
  | zero => intro l _; simp [rmany, encs]
  | succ k ih =>
    intro l h
    unfold rmany at h ⊢
    split at h
    · rename_i h0; exact absurd h h0
    · rename_i h0
      rw [if_neg h0]
      split at h
      · rename_i h1; exact absurd h h1
      · rename_i h1
        rw [if_neg h1]
        obtain ⟨h2, h3⟩ := ih (rnum l 0).2.2 h
        have h4 := rnum_only l (by simpa using h0)
        refine ⟨by simp [h2], ?_⟩
        have e : encs ((rnum l 0).1 :: (rmany k (rnum l 0).2.2 0).1) = enc (zig (rnum l 0).1) ++ encs (rmany k (rnum l 0).2.2 0).1 := by simp [encs]
        rw [e, List.append_assoc, ← h3, ← h4]
theorem rnums_only (most : Int) (l : List UInt8) (h : (rnums most l 0).2.1 = 0) : l = encNums (rnums most l 0).1 ++ (rnums most l 0).2.2 ∧ ((rnums most l 0).1.length : Int) ≤ most := by
  unfold rnums at h ⊢
  split at h
  · rename_i h0; exact absurd h h0
  · rename_i h0
    rw [if_neg h0]
    have h1 : (rrange 0 most l 0).2.1 = 0 := by simpa using h0
    obtain ⟨h2, h3, h4⟩ := rrange_ok 0 most l 0 h1
    rw [h2] at h h1 ⊢
    obtain ⟨h5, h6⟩ := rmany_only _ _ h
    have h7 := rnum_only l h1
    refine ⟨?_, by rw [h5]; omega⟩
    unfold encNums
    rw [h5, List.append_assoc, ← h6]
    have e : (((rnum l 0).1.toNat : Nat) : Int) = (rnum l 0).1 := by omega
    rw [e, ← h7]

theorem rmany_enc (xs : List Int) : ∀ rest : List UInt8, I64s xs → rmany xs.length (encs xs ++ rest) 0 = (xs, 0, rest) := by
  induction xs with
  | nil => intro rest _; simp [rmany, encs]
  | cons x xs ih =>
    intro rest h
    have e : encs (x :: xs) ++ rest = enc (zig x) ++ (encs xs ++ rest) := by simp [encs]
    have h1 := rnum_enc x (encs xs ++ rest) (h x (by simp))
    have h2 := ih rest (fun y hy => h y (by simp [hy]))
    rw [List.length_cons, e, rmany, h1]
    simp [h2]
theorem rnums_enc (most : Int) (xs : List Int) (rest : List UInt8) (h : I64s xs) (hm : (xs.length : Int) ≤ most) (hl : xs.length ≤ 1000000) : rnums most (encNums xs ++ rest) 0 = (xs, 0, rest) := by
  have h1 := rnum_enc (xs.length : Int) (encs xs ++ rest) ⟨by omega, by omega⟩
  have e : encNums xs ++ rest = enc (zig xs.length) ++ (encs xs ++ rest) := by simp [encNums]
  have h2 : rrange 0 most (encNums xs ++ rest) 0 = ((xs.length : Int), 0, encs xs ++ rest) := by
    unfold rrange
    rw [e, h1]
    simp only [ne_eq, not_true_eq_false, if_false]
    rw [if_neg (by omega)]
  unfold rnums
  rw [h2]
  simp only [ne_eq, not_true_eq_false, if_false, Int.toNat_natCast]
  exact rmany_enc xs rest h

theorem rmany_torn (xs : List Int) : ∀ (k : Nat), I64s xs → k < (encs xs).length → (rmany xs.length ((encs xs).take k) 0).2.1 = 4 := by
  induction xs with
  | nil => intro k _ hk; simp [encs] at hk
  | cons x xs ih =>
    intro k h hk
    have e : encs (x :: xs) = enc (zig x) ++ encs xs := by simp [encs]
    rw [e] at hk ⊢
    rw [List.length_cons]
    by_cases hlt : k < (enc (zig x)).length
    · rw [List.take_append_of_le_length (by omega), rmany, rnum_torn x k hlt]
      simp
    · have h1 : (enc (zig x) ++ encs xs).take k = enc (zig x) ++ (encs xs).take (k - (enc (zig x)).length) := by
        rw [List.take_append, List.take_of_length_le (by omega)]
      have h2 := rnum_enc x ((encs xs).take (k - (enc (zig x)).length)) (h x (by simp))
      have h3 := ih (k - (enc (zig x)).length) (fun y hy => h y (by simp [hy])) (by rw [List.length_append] at hk; omega)
      rw [h1, rmany, h2]
      simp [h3]
theorem rnums_torn (most : Int) (xs : List Int) (k : Nat) (h : I64s xs) (hm : (xs.length : Int) ≤ most) (hl : xs.length ≤ 1000000) (hk : k < (encNums xs).length) : (rnums most ((encNums xs).take k) 0).2.1 = 4 := by
  unfold encNums at hk ⊢
  by_cases hlt : k < (enc (zig xs.length)).length
  · rw [List.take_append_of_le_length (by omega)]
    have h1 := rnum_torn (xs.length : Int) k hlt
    have h2 : rrange 0 most ((enc (zig xs.length)).take k) 0 = (0, 4, []) := by
      unfold rrange
      rw [h1]
      simp
    unfold rnums
    rw [h2]
    simp
  · have h1 : (enc (zig xs.length) ++ encs xs).take k = enc (zig xs.length) ++ (encs xs).take (k - (enc (zig xs.length)).length) := by
      rw [List.take_append, List.take_of_length_le (by omega)]
    have h2 := rnum_enc (xs.length : Int) ((encs xs).take (k - (enc (zig xs.length)).length)) ⟨by omega, by omega⟩
    have h3 : rrange 0 most ((enc (zig xs.length) ++ encs xs).take k) 0 = ((xs.length : Int), 0, (encs xs).take (k - (enc (zig xs.length)).length)) := by
      unfold rrange
      rw [h1, h2]
      simp only [ne_eq, not_true_eq_false, if_false]
      rw [if_neg (by omega)]
    unfold rnums
    rw [h3]
    simp only [ne_eq, not_true_eq_false, if_false, Int.toNat_natCast]
    exact rmany_torn xs _ h (by rw [List.length_append] at hk; omega)

theorem rtext_enc (most : Int) (s rest : List UInt8) (hm : (s.length : Int) ≤ most) (hl : s.length ≤ 1000000) : rtext most (enc (zig s.length) ++ s ++ rest) 0 = (s, 0, rest) := by
  have h1 := rnum_enc (s.length : Int) (s ++ rest) ⟨by omega, by omega⟩
  have h2 : rrange 0 most (enc (zig s.length) ++ s ++ rest) 0 = ((s.length : Int), 0, s ++ rest) := by
    unfold rrange
    rw [List.append_assoc, h1]
    simp only [ne_eq, not_true_eq_false, if_false]
    rw [if_neg (by omega)]
  unfold rtext
  rw [h2]
  simp only [ne_eq, not_true_eq_false, if_false, Int.toNat_natCast]
  rw [if_neg (by simp; omega)]
  simp
end Go.Proofs.YtnphncemghfkbaaGreat
