/- Contracts of package order: Bytes. -/
import Derived.Test.YtlcbbkookjmnkaaOrd7
namespace Go.Proofs.Ytlcbbkookjmnkaa
open Go.RowKit Go.My Go.Maps
set_option linter.unusedSimpArgs false
set_option linter.unusedVariables false
attribute [local go_sem ↓] Go.wp_at_zero Go.wp_at_succ

theorem tB_len (s : List UInt8) : (tB s).length ≤ 10 + s.length := by
  unfold tB
  rw [List.length_append]
  have := enc_length_le (zig s.length)
  omega
def headB (o : Od) : List UInt8 := flatB [nB o.cl, nB o.sq, nB o.kd, tB o.an, tB o.pn, nB o.sum, nB (o.legs.length : Int)]
def legBy (g : Lg) : List UInt8 := tB g.nm ++ nB g.sum
def legsBy (L : List Lg) : List UInt8 := L.flatMap legBy
def tailB (o : Od) : List UInt8 := nB o.per ++ (nB o.hold ++ tB o.note.data.toList)
def bytesO (o : Od) : List UInt8 := headB o ++ legsBy o.legs ++ tailB o
theorem legsBy_take {L : List Lg} {k : Nat} (h : k < L.length) : legsBy (L.take (k + 1)) = legsBy (L.take k) ++ legBy L[k] := by
  unfold legsBy
  rw [List.take_succ_eq_append_getElem h, List.flatMap_append]
  simp
theorem name_len {l : List UInt8} (h : nameB l = true) : l.length ≤ 8 := by
  unfold nameB at h
  simp only [Bool.and_eq_true, decide_eq_true_eq] at h
  exact h.2.2
theorem rightB_lens {L : List Lg} (h : rightB L = true) : L.length ≤ 6 ∧ ∀ g ∈ L, g.nm.length ≤ 8 := by
  unfold rightB at h
  simp only [Bool.and_eq_true, decide_eq_true_eq, List.all_eq_true] at h
  exact ⟨h.1.1.2, fun g hg => name_len (h.1.2 g hg).1⟩
/-- an order that may be is short -/
structure Short (o : Od) : Prop where
  acct : o.an.length ≤ 8
  peer : o.pn.length ≤ 8
  note : o.note.data.toList.length ≤ 20
  legs : o.legs.length ≤ 6
  each : ∀ g ∈ o.legs, g.nm.length ≤ 8
theorem right_short {o : Od} (h : rightO o = true) : Short o := by
  unfold rightO at h
  simp only [Bool.and_eq_true] at h
  obtain ⟨_, _, _, h1, h2, _, h3, _, _, h4⟩ := h
  have hl : o.legs.length ≤ 6 ∧ ∀ g ∈ o.legs, g.nm.length ≤ 8 := by
    unfold legsB at h3
    split at h3
    · exact rightB_lens h3
    · have h0 : o.legs.length = 0 := by simpa using h3
      exact ⟨by omega, fun g hg => by rw [List.length_eq_zero_iff.1 h0] at hg; cases hg⟩
  refine ⟨?_, ?_, ?_, hl.1, hl.2⟩
  · unfold acctB at h1
    split at h1
    · rw [List.isEmpty_iff.1 h1]; simp
    · exact name_len h1
  · unfold peerB at h2
    split at h2
    · rw [Bool.and_eq_true] at h2; exact name_len h2.1
    · rw [List.isEmpty_iff.1 h2]; simp
  · unfold noteB at h4
    split at h4
    · simpa using h4
    · rw [List.isEmpty_iff.1 h4]; simp
theorem flatB_cons (a : List UInt8) (l : List (List UInt8)) : flatB (a :: l) = a ++ flatB l := rfl
theorem flatB_nil : flatB [] = [] := rfl
theorem head_len {o : Od} (h : Short o) : (headB o).length ≤ 86 := by
  have h1 := nB_len o.cl
  have h2 := nB_len o.sq
  have h3 := nB_len o.kd
  have h4 := tB_len o.an
  have h5 := tB_len o.pn
  have h6 := nB_len o.sum
  have h7 := nB_len (o.legs.length : Int)
  have h8 := h.acct
  have h9 := h.peer
  unfold headB
  simp only [flatB_cons, flatB_nil, List.length_append, List.length_nil]
  omega
theorem legBy_len {g : Lg} (h : g.nm.length ≤ 8) : (legBy g).length ≤ 28 := by
  have h1 := tB_len g.nm
  have h2 := nB_len g.sum
  unfold legBy
  rw [List.length_append]
  omega
theorem legsBy_len {L : List Lg} (h : ∀ g ∈ L, g.nm.length ≤ 8) : (legsBy L).length ≤ 28 * L.length := by
  induction L with
  | nil => simp [legsBy]
  | cons g r ih =>
    have h1 := legBy_len (h g List.mem_cons_self)
    have h2 := ih (fun x hx => h x (List.mem_cons_of_mem _ hx))
    show (legBy g ++ legsBy r).length ≤ _
    rw [List.length_append, List.length_cons]
    omega
def obE (o : Od) : Int := if rightO o = true then 0 else 1
def obL (o : Od) : List UInt8 := if rightO o = true then bytesO o else []
/-- bytes of the call's own, and an error -/
def RetBE (l : List UInt8) (n : Int) (w : World) (e : Ending) (w' : World) : Prop := ∃ A c, e = .returned (.tuple #[.slice A l.length c, .int .i64 n]) ∧ Own w' 5 1 (.slice A l.length c) l.length (bs l) ∧ Fr No w w'
def ObRel (w3 : World) (o : Od) (bv iv : Value) (wr : World) : Prop := ∃ (k : Nat) (A : Option Addr) (c : Nat) (l : List UInt8), k ≤ o.legs.length ∧ iv = .int .i64 k ∧ l = headB o ++ legsBy (o.legs.take k) ∧ bv = .slice A l.length c ∧ Own wr 5 1 (.slice A l.length c) l.length (bs l) ∧ Fr No w3 wr
set_option maxRecDepth 100000 in
set_option maxHeartbeats 8000000 in
theorem obytes_any (F : Nat → Prop) (o : Od) (v : Value) (w : World) (ho : o.ok) (hv : LgS w F v o.legs) :
    Calls Try.prog 11 #[o.val v] w (RetBE (obL o) (obE o) w) := by
  have HR := Lib.hid (fun W hW => rightO_any F o v W ho (hv.no hW))
  have HBX := Lib.hid (Blk.new w 26 (o.cs v).toArray)
  have HV := Lib.hid (fun W (hW : Fr No w W) => hv.no hW)
  have HO := Lib.hid ho
  have HOL : Hid (rightO o = false → obL o = [] ∧ obE o = 1) := fun h => by unfold obL obE; rw [h]; exact ⟨rfl, rfl⟩
  have HOT : Hid (rightO o = true → obL o = bytesO o ∧ obE o = 0 ∧ Short o) := fun h => ⟨by unfold obL; rw [if_pos h], by unfold obE; rw [if_pos h], right_short h⟩
  obtain ⟨A, c, cells, rfl, hrd, hE, hlc, hcm⟩ := hv
  have HRD := Lib.hid hrd
  have HE := Lib.hid hE
  clear ho hrd hE
  unfold Od.val at *
  obtain ⟨ocl, osq, okd, oac, ope, osm, olg, opr, ohd, ont⟩ := o
  unfold Od.cs at *
  simp only at hlc HRD HE HR HV
  go_enter Try.func11, Try.ntmps11
  go_wp2_with fail
  refine (HR.out _ ((Fr.refl _ _).alloc _)).mono ?_
  rintro e w1 ⟨rfl, hf1⟩
  have HB1 := Lib.hid (HBX.out.fr hf1 (fun h => h))
  have HF1 := Lib.hid (((Fr.refl No w).alloc _).trans hf1)
  clear HR hf1 HBX
  cases hro : rightO ⟨ocl, osq, okd, oac, ope, osm, olg, opr, ohd, ont⟩
  · obtain ⟨hl, he⟩ := HOL.out hro
    clear hro HOL HOT
    go_wp2
    go_ret2
    rw [hl, he]
    exact ⟨none, 0, rfl, Own.nil _ _ _, HF1.out⟩
  · obtain ⟨hl, he, hsh⟩ := HOT.out hro
    have HL := Lib.hid hl
    have HE2 := Lib.hid he
    have HSH := Lib.hid hsh
    obtain ⟨i1, i2, i3, i4, i5, i6, i7, i8, i9⟩ := HO.out
    have N1 := Lib.hid (fun W => onum_any ocl i1 W)
    have N2 := Lib.hid (fun W => onum_any osq i2 W)
    have N3 := Lib.hid (fun W => onum_any okd i3 W)
    have N4 := Lib.hid (fun W => ptext_any oac (by have h := hsh.acct; unfold Od.an at h; simp only at h; have : oac.size = oac.data.toList.length := rfl; omega) W)
    have N5 := Lib.hid (fun W => ptext_any ope (by have h := hsh.peer; unfold Od.pn at h; simp only at h; have : ope.size = ope.data.toList.length := rfl; omega) W)
    have N6 := Lib.hid (fun W => pnum_any osm i6 W)
    have N7 := Lib.hid (fun W => onum_any (olg.length : Int) (by have h := hsh.legs; simp only at h; unfold In64; omega) W)
    have N8 := Lib.hid (fun W => onum_any opr i7 W)
    have N9 := Lib.hid (fun W => onum_any ohd i8 W)
    have N10 := Lib.hid (fun W => ptext_any ont (by have h := hsh.note; simp only at h; have : ont.size = ont.data.toList.length := rfl; omega) W)
    have HHL : Hid ((flatB [nB ocl, nB osq, nB okd, tB oac.data.toList, tB ope.data.toList, nB osm, nB (olg.length : Int)]).length ≤ 1000) := by
      have h : (headB ⟨ocl, osq, okd, oac, ope, osm, olg, opr, ohd, ont⟩).length ≤ 86 := head_len hsh
      exact Nat.le_trans h (by omega)
    clear hro hl he HOL HOT hsh i1 i2 i3 i4 i5 i6 i7 i8 i9 HO
    have HX : Hid (∀ W, Fr No w1 W → Fr No w1 W ∧ W.cell? ⟨w.heap.size, 0, none⟩ = some (.int .i64 ocl) ∧ W.cell? ⟨w.heap.size, 1, none⟩ = some (.int .i64 osq) ∧ W.cell? ⟨w.heap.size, 2, none⟩ = some (.int .i64 okd) ∧ W.cell? ⟨w.heap.size, 3, none⟩ = some (.string oac) ∧ W.cell? ⟨w.heap.size, 4, none⟩ = some (.string ope) ∧ W.cell? ⟨w.heap.size, 5, none⟩ = some (.int .i64 osm) ∧ W.cell? ⟨w.heap.size, 6, none⟩ = some (.slice A olg.length c)) := fun W hW => by
      have h := HB1.out.fr hW (fun h => h)
      exact ⟨hW, h.cell 0, h.cell 1, h.cell 2, h.cell 3, h.cell 4, h.cell 5, h.cell 6⟩
    have HY : Hid (∀ W, Fr No w1 W → Fr No w1 W ∧ W.cell? ⟨w.heap.size, 7, none⟩ = some (.int .i64 opr) ∧ W.cell? ⟨w.heap.size, 8, none⟩ = some (.int .i64 ohd) ∧ W.cell? ⟨w.heap.size, 9, none⟩ = some (.string ont)) := fun W hW => by
      have h := HB1.out.fr hW (fun h => h)
      exact ⟨hW, h.cell 7, h.cell 8, h.cell 9⟩
    have hw1 : Fr No w1 w1.drew := (Fr.refl No w1).drew
    go_upto_region 3 with (fail)
    go_region_held3 (fun W => Fr No w1 W ∧ W.cell? ⟨w.heap.size, 0, none⟩ = some (.int .i64 ocl) ∧ W.cell? ⟨w.heap.size, 1, none⟩ = some (.int .i64 osq) ∧ W.cell? ⟨w.heap.size, 2, none⟩ = some (.int .i64 okd) ∧ W.cell? ⟨w.heap.size, 3, none⟩ = some (.string oac) ∧ W.cell? ⟨w.heap.size, 4, none⟩ = some (.string ope) ∧ W.cell? ⟨w.heap.size, 5, none⟩ = some (.int .i64 osm) ∧ W.cell? ⟨w.heap.size, 6, none⟩ = some (.slice A olg.length c))
      (first
        | (refine HX.out _ ?_; with_reducible assumption)
        | (refine HX.out _ (Fr.alloc ?_ _); with_reducible assumption))
      (first
        | (go_at_call 33; (with_reducible refine (N1.out _).mono ?_); rintro e u1 ⟨A1, c1, rfl, ho1, hf1⟩; have hg1 := Fr.trans hw1 hf1)
        | (go_at_call 33; (with_reducible refine (N2.out _).mono ?_); rintro e u2 ⟨A2, c2, rfl, ho2, hf2⟩; have hg2 := Fr.trans hg1 hf2)
        | (go_at_call 33; (with_reducible refine (N3.out _).mono ?_); rintro e u3 ⟨A3, c3, rfl, ho3, hf3⟩; have hg3 := Fr.trans hg2 hf3)
        | (go_at_call 34; (with_reducible refine (N4.out _).mono ?_); rintro e u4 ⟨A4, c4, rfl, ho4, hf4⟩; have hg4 := Fr.trans hg3 hf4)
        | (go_at_call 34; (with_reducible refine (N5.out _).mono ?_); rintro e u5 ⟨A5, c5, rfl, ho5, hf5⟩; have hg5 := Fr.trans hg4 hf5)
        | (go_at_call 35; (with_reducible refine (N6.out _).mono ?_); rintro e u6 ⟨A6, c6, rfl, ho6, hf6⟩; have hg6 := Fr.trans hg5 hf6)
        | (go_at_call 33; (with_reducible refine (N7.out _).mono ?_); rintro e u7 ⟨A7, c7, rfl, ho7, hf7⟩; have hg7 := Fr.trans hg6 hf7)
        | (go_at_call 32; have q5 := concatB_n 7 (n := 7) (LsB.seven (ownNo ho1 (hf2.trans (hf3.trans (hf4.trans (hf5.trans (hf6.trans (hf7))))))) (ownNo ho2 (hf3.trans (hf4.trans (hf5.trans (hf6.trans (hf7)))))) (ownNo ho3 (hf4.trans (hf5.trans (hf6.trans (hf7))))) (ownNo ho4 (hf5.trans (hf6.trans (hf7)))) (ownNo ho5 (hf6.trans (hf7))) (ownNo ho6 (hf7)) ho7) rfl (by decide) HHL.out; (with_reducible refine q5.mono ?_); rintro e u8 ⟨A8, c8, rfl, ho8, hf8⟩; have hg8 := Fr.trans (Fr.alloc hg7 _) hf8))
    have HO8 := Lib.hid ho8
    have HG8 := Lib.hid hg8
    obtain ⟨_, _, _, _, _, _, _, x6⟩ := HX.out _ hg8
    clear ho1 ho2 ho3 ho4 ho5 ho6 ho7 ho8 hf1 hf2 hf3 hf4 hf5 hf6 hf7 hf8 hg1 hg2 hg3 hg4 hg5 hg6 hg7 hg8 hw1
    go_wp2
    have HN0 : Hid (flatB [nB ocl, nB osq, nB okd, tB oac.data.toList, tB ope.data.toList, nB osm, nB (olg.length : Int)] = headB ⟨ocl, osq, okd, oac, ope, osm, olg, opr, ohd, ont⟩ ++ legsBy (olg.take 0)) := by show _ = _; simp only [List.take_zero, legsBy, List.flatMap_nil, List.append_nil]; rfl
    generalize flatB [nB ocl, nB osq, nB okd, tB oac.data.toList, tB ope.data.toList, nB osm, nB (olg.length : Int)] = l8 at *
    go_loopw [4, 39] (fun bv iv wr => ObRel u8 ⟨ocl, osq, okd, oac, ope, osm, olg, opr, ohd, ont⟩ bv iv wr) (fun _ iv _ => olg.length - (intOf iv).toNat)
    case atStart => exact ⟨0, A8, c8, l8, Nat.zero_le _, rfl, HN0.out, rfl, HO8.out, Fr.refl _ _⟩
    case round =>
      obtain ⟨k, Ab, cb, l, hk, rfl, hl, rfl, hown, hfr⟩ := hrel
      simp only at hk hl
      have HLN : Hid (l.length ≤ 86 + 28 * k) := by
        show _ ≤ _
        rw [hl, List.length_append]
        have h1 := head_len HSH.out
        have h2 := legsBy_len (L := olg.take k) (fun g hg => HSH.out.each g (List.mem_of_mem_take hg))
        rw [List.length_take] at h2
        have : min k olg.length = k := by omega
        rw [this] at h2
        omega
      have HLL := Lib.hid hl
      have HOWN := Lib.hid hown
      have HFR := Lib.hid hfr
      have HF := Lib.hid (HF1.out.trans (HG8.out.trans hfr))
      have hl6 : olg.length ≤ 6 := HSH.out.legs
      clear hl hown
      by_cases hlt : k < olg.length
      · obtain ⟨ad, rfl, _, hok, q0, q1⟩ := lg_at (HRD.out.fr (by omega) HF.out fun _ _ _ h => h) HE.out k hlt hlt
        have hn8 := HSH.out.each olg[k] (List.getElem_mem hlt)
        have HNX : Hid (headB ⟨ocl, osq, okd, oac, ope, osm, olg, opr, ohd, ont⟩ ++ legsBy (olg.take (k + 1)) = l ++ legBy olg[k]) := by
          show _ = _
          rw [HLL.out, legsBy_take hlt, List.append_assoc]
        generalize olg[k] = g at *
        obtain ⟨nm, sm⟩ := g
        unfold Lg.ok at hok
        unfold Lg.nm at hn8
        simp only at q0 q1 hok hn8
        have NT := Lib.hid (fun W => ptext_any nm (by have : nm.size = nm.data.toList.length := rfl; omega) W)
        have NN := Lib.hid (fun W => pnum_any sm hok.2 W)
        have HBD : Hid ((flatB [l, tB nm.data.toList, nB sm]).length ≤ 1000) := by
          show _ ≤ _
          have h1 := tB_len nm.data.toList
          have h2 := nB_len sm
          have h3 := HLN.out
          simp only [flatB_cons, flatB_nil, List.length_append, List.length_nil]
          omega
        have HNX2 : Hid (flatB [l, tB nm.data.toList, nB sm] = headB ⟨ocl, osq, okd, oac, ope, osm, olg, opr, ohd, ont⟩ ++ legsBy (olg.take (k + 1))) := by
          show _ = _
          rw [HNX.out]
          simp only [flatB_cons, flatB_nil, legBy, Lg.nm, List.append_nil]
        have hbx := Blk.new wr 53 #[.string nm, .int .i64 sm]
        have hfx : Fr No wr (wr.alloc (.cells #[.string nm, .int .i64 sm] 53)) := (Fr.refl _ _).alloc _
        clear hok hn8 HNX hfr
        go_upto_region 7 with (fail)
        generalize wr.alloc (.cells #[.string nm, .int .i64 sm] 53) = wl at *
        have HFX := Lib.hid hfx
        have HZ : Hid (∀ W, Fr No wl W → Fr No wl W ∧ W.cell? ⟨wr.heap.size, 0, none⟩ = some (.string nm) ∧ W.cell? ⟨wr.heap.size, 1, none⟩ = some (.int .i64 sm)) := fun W hW => by
          have h := hbx.fr hW (fun h => h)
          exact ⟨hW, h.cell 0, h.cell 1⟩
        have hwl : Fr No wl wl.drew := (Fr.refl No wl).drew
        clear hbx hfx q0 q1
        go_region_held3 (fun W => Fr No wl W ∧ W.cell? ⟨wr.heap.size, 0, none⟩ = some (.string nm) ∧ W.cell? ⟨wr.heap.size, 1, none⟩ = some (.int .i64 sm))
          (first
            | (refine HZ.out _ ?_; with_reducible assumption)
            | (refine HZ.out _ (Fr.alloc ?_ _); with_reducible assumption))
          (first
            | (go_at_call 34; (with_reducible refine (NT.out _).mono ?_); rintro e y1 ⟨A1, c1, rfl, ho1, hf1⟩; have hg1 := Fr.trans hwl hf1)
            | (go_at_call 35; (with_reducible refine (NN.out _).mono ?_); rintro e y2 ⟨A2, c2, rfl, ho2, hf2⟩; have hg2 := Fr.trans hg1 hf2)
            | (go_at_call 32; have q5 := concatB_n 3 (n := 3) (LsB.three (ownNo HOWN.out (HFX.out.trans hg2)) (ownNo ho1 hf2) ho2) rfl (by decide) HBD.out; (with_reducible refine q5.mono ?_); rintro e y3 ⟨A3, c3, rfl, ho3, hf3⟩; have hg3 := Fr.trans (Fr.alloc hg2 _) hf3))
        have HO3 := Lib.hid ho3
        have HG3 := Lib.hid (HFX.out.trans hg3)
        clear ho1 ho2 ho3 hf1 hf2 hf3 hg1 hg2 hg3 hwl
        go_wp2
        go_roundw
        case rel => exact ⟨k + 1, A3, c3, _, by simp only; omega, by go_num, HNX2.out, rfl, HO3.out, HFR.out.trans HG3.out⟩
        case measure => simp [intOf]; omega
      · obtain rfl : k = olg.length := by omega
        have HBD : Hid ((flatB [l, nB opr, nB ohd, tB ont.data.toList]).length ≤ 1000) := by
          show _ ≤ _
          have h1 := tB_len ont.data.toList
          have h2 := nB_len opr
          have h4 := nB_len ohd
          have h3 := HLN.out
          have h5 := HSH.out.note
          simp only at h5
          simp only [flatB_cons, flatB_nil, List.length_append, List.length_nil]
          omega
        have HFIN : Hid (flatB [l, nB opr, nB ohd, tB ont.data.toList] = obL ⟨ocl, osq, okd, oac, ope, osm, olg, opr, ohd, ont⟩) := by
          show _ = _
          rw [HL.out, HLL.out, List.take_length]
          simp only [flatB_cons, flatB_nil, List.append_nil]
          rfl
        have hwe : Fr No w1 wr.drew := (HG8.out.trans hfr).drew
        obtain ⟨_, y7, y8, y9⟩ := HY.out _ (HG8.out.trans hfr)
        clear hfr
        go_upto_region 9 with (fail)
        go_region_held3 (fun W => Fr No w1 W ∧ W.cell? ⟨w.heap.size, 7, none⟩ = some (.int .i64 opr) ∧ W.cell? ⟨w.heap.size, 8, none⟩ = some (.int .i64 ohd) ∧ W.cell? ⟨w.heap.size, 9, none⟩ = some (.string ont))
          (first
            | (refine HY.out _ ?_; with_reducible assumption)
            | (refine HY.out _ (Fr.alloc ?_ _); with_reducible assumption))
          (first
            | (go_at_call 33; (with_reducible refine (N8.out _).mono ?_); rintro e y1 ⟨A1, c1, rfl, ho1, hf1⟩; have hg1 := Fr.trans hwe hf1; have hh1 := Fr.trans (Fr.refl No wr).drew hf1)
            | (go_at_call 33; (with_reducible refine (N9.out _).mono ?_); rintro e y2 ⟨A2, c2, rfl, ho2, hf2⟩; have hg2 := Fr.trans hg1 hf2)
            | (go_at_call 34; (with_reducible refine (N10.out _).mono ?_); rintro e y3 ⟨A3, c3, rfl, ho3, hf3⟩; have hg3 := Fr.trans hg2 hf3)
            | (go_at_call 32; have q5 := concatB_n 4 (n := 4) (LsB.four (ownNo HOWN.out (hh1.trans (hf2.trans hf3))) (ownNo ho1 (hf2.trans hf3)) (ownNo ho2 hf3) ho3) rfl (by decide) HBD.out; (with_reducible refine q5.mono ?_); rintro e y4 ⟨A4, c4, rfl, ho4, hf4⟩; have hg4 := Fr.trans (Fr.alloc hg3 _) hf4))
        have HO4 := Lib.hid ho4
        have HG4 := Lib.hid (HF1.out.trans hg4)
        clear ho1 ho2 ho3 ho4 hf1 hf2 hf3 hf4 hg1 hg2 hg3 hg4 hh1 hwe y7 y8 y9
        rw [HFIN.out] at HO4
        go_wp2
        go_ret2
        rw [HFIN.out, HE2.out]
        exact ⟨A4, c4, rfl, HO4.out, HG4.out⟩
end Go.Proofs.Ytlcbbkookjmnkaa
