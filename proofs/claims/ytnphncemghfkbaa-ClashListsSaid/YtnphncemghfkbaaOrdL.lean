/- order.Touches: the accounts that an order names. -/
import Derived.Test.YtnphncemghfkbaaStrS
import Derived.Test.YtnphncemghfkbaaOrd6
import Derived.Test.YtnphncemghfkbaaAppMake
namespace Go.Proofs.Ytnphncemghfkbaa
open Go.RowKit Go.My Go.Maps Go.Sort Go.Lib
set_option linter.unusedSimpArgs false
set_option linter.unusedVariables false

theorem elS : El Try.prog 38 9 1 16 := ⟨Try.underlying38, by
  have h : (Try.prog.info? 9).map (fun i => (i.zero, i.size, i.bytes)) = some (some (.string ⟨#[]⟩), 1, 16) := by kernel_rfl
  obtain ⟨i, hi, hz, hs, hb⟩ := info_parts h
  exact ⟨i, _, hi, hz, hs, hb, rfl⟩, by omega⟩
theorem toArr (s : ByteArray) : Value.string s = encStr s.data.toList := rfl

/-- all texts in an order's accounts -/
def allN (o : Od) (k : Nat) : List (List UInt8) := [o.an, o.pn] ++ (o.legs.take k).map Lg.nm
theorem allN_length (o : Od) (k : Nat) (h : k ≤ o.legs.length) : (allN o k).length = 2 + k := by
  unfold allN
  rw [List.length_append, List.length_map, List.length_take]
  simp
  omega
theorem allN_next (o : Od) (k : Nat) (h : k < o.legs.length) : allN o (k + 1) = allN o k ++ [o.legs[k].nm] := by
  unfold allN
  rw [List.take_succ_eq_append_getElem h, List.map_append, List.append_assoc]
  rfl
def namesO (o : Od) : List (List UInt8) := (allN o o.legs.length).filter fun s => !s.isEmpty
/-- the accounts that it names -/
def touchL (o : Od) : List (List UInt8) := upOf (namesO o)

theorem touchF_any (W : World) (x : List UInt8) : FnGives Try.prog 45 #[] #[encStr x] (.bool x.isEmpty) W := by
  show Calls Try.prog 45 #[.string ⟨x.toArray⟩] W _
  cases x with
  | nil =>
    go_enter Try.func45, Try.ntmps45
    go_wp2
    go_ret
    exact ⟨rfl, 0, rfl⟩
  | cons a l =>
    have h1 : ((⟨(a :: l).toArray⟩ : ByteArray).toList == []) = false := by rw [ByteArray.toList_eq]; rfl
    have h2 : ((a :: l) == []) = false := rfl
    go_enter Try.func45, Try.ntmps45
    go_wp2
    go_ret
    exact ⟨rfl, 0, rfl⟩

def TcRel (w1 : World) (o : Od) (v i : Value) (wr : World) : Prop :=
  ∃ k A c, k ≤ o.legs.length ∧ v = .slice A (2 + k) c ∧ i = .int .i64 (k : Nat) ∧ Own wr 9 1 (.slice A (2 + k) c) (2 + k) (ts (allN o k)) ∧ Fr No w1 wr ∧ Newer w1.heap.size none (Value.slice A (2 + k) c).ownBlock
theorem own_two (w : World) (t : TypeId) (a b : Value) : Own (w.alloc (.cells #[a, b] t)) t 1 (.slice (some ⟨w.heap.size, 0, none⟩) 2 2) 2 [a, b] :=
  ⟨rfl, .inr ⟨_, 2, #[a, b], rfl, heap_alloc_new w _, Nat.le_refl _, by decide, by simp, rfl⟩⟩
set_option maxRecDepth 100000 in
set_option maxHeartbeats 4000000 in
theorem touches_any (F : Nat → Prop) (o : Od) (v : Value) (w : World) (hv : LgS w F v o.legs) (hl : o.legs.length ≤ 100000) :
    Calls Try.prog 34 #[o.val v] w (RetOwn w 9 1 none (touchL o).length (ts (touchL o))) := by
  obtain ⟨ocl, osq, okd, oac, ope, osm, olg, opr, ohd, ont⟩ := o
  unfold Od.val Od.cs
  obtain ⟨vA, vc, cells, rfl, hr, hE, hlc, hcm⟩ := hv
  have hbk := Blk.new w 30 #[.int .i64 ocl, .int .i64 osq, .int .i64 okd, .string oac, .string ope, .int .i64 osm, .slice vA olg.length vc, .int .i64 opr, .int .i64 ohd, .string ont]
  have hf0 : Fr No w (w.alloc (.cells #[.int .i64 ocl, .int .i64 osq, .int .i64 okd, .string oac, .string ope, .int .i64 osm, .slice vA olg.length vc, .int .i64 opr, .int .i64 ohd, .string ont] 30)) := (Fr.refl _ _).alloc _
  simp only at hl hlc hE hr ⊢
  have hx3 := hbk.cell 3
  have hx4 := hbk.cell 4
  have hx6 := hbk.cell 6
  simp only [List.getElem?_toArray, List.getElem?_cons_zero, List.getElem?_cons_succ] at hx3 hx4 hx6
  go_enter Try.func34, Try.ntmps34
  go_upto_region 1 with (fail)
  generalize hw1 : (w.alloc (.cells #[.int .i64 ocl, .int .i64 osq, .int .i64 okd, .string oac, .string ope, .int .i64 osm, .slice vA olg.length vc, .int .i64 opr, .int .i64 ohd, .string ont] 30)) = w1 at *
  clear hw1
  have HF := Lib.hid hf0
  have HR := Lib.hid (hr.fr (by omega) hf0 fun _ _ _ h => h)
  have HE := Lib.hid hE
  have HL := Lib.hid hl
  go_upto_region 2 with (fail)
  have hf1 : Fr No w1 (w1.alloc (.cells #[.string oac, .string ope] 9)) := (Fr.refl _ _).alloc _
  have ho := own_two w1 9 (.string oac) (.string ope)
  have hb2 := hbk.alloc (.cells #[.string oac, .string ope] 9)
  have hnew : Newer w1.heap.size none (Value.slice (some ⟨w1.heap.size, 0, none⟩) 2 2).ownBlock := .inr ⟨_, rfl, Nat.le_refl _⟩
  generalize hw2 : w1.alloc (.cells #[.string oac, .string ope] 9) = w2 at *
  clear hw2 hbk hx3 hx4 hx6
  have hx6 := hb2.cell 6
  simp only [List.getElem?_toArray, List.getElem?_cons_zero, List.getElem?_cons_succ] at hx6
  have HR2 := Lib.hid (HR.out.fr (by omega) hf1 fun _ _ _ h => h)
  have HS : Hid (∀ k A c, k ≤ olg.length → Value.slice A (2 + k) c = .slice A (2 + k) c → True) := fun _ _ _ _ _ => trivial
  have H0 : Hid (TcRel w1 ⟨ocl, osq, okd, oac, ope, osm, olg, opr, ohd, ont⟩ (.slice (some ⟨w1.heap.size, 0, none⟩) 2 2) (.int .i64 0) w2) :=
    ⟨0, some ⟨w1.heap.size, 0, none⟩, 2, Nat.zero_le _, rfl, rfl, by rw [show allN ⟨ocl, osq, okd, oac, ope, osm, olg, opr, ohd, ont⟩ 0 = [oac.data.toList, ope.data.toList] from rfl]; exact ho, hf1, hnew⟩
  have HF1 := Lib.hid hf1
  clear hr hE hf0 hf1 hl ho hnew HS
  go_wp2_with fail
  go_loopw [3, 14] (fun v iv wr => TcRel w1 ⟨ocl, osq, okd, oac, ope, osm, olg, opr, ohd, ont⟩ v iv wr) (fun _ iv _ => olg.length - (intOf iv).toNat)
  case atStart => exact H0.out
  case round =>
    obtain ⟨k, A, c, hk, rfl, rfl, hown, hfr, hnew⟩ := hrel
    simp only at hk
    by_cases hlt : k < olg.length
    · obtain ⟨ad, rfl, _, hok, q0, q1⟩ := lg_at (HR.out.fr (by omega) hfr fun _ _ _ h => h) HE.out k hlt hlt
      have HAN : Hid (allN ⟨ocl, osq, okd, oac, ope, osm, olg, opr, ohd, ont⟩ (k + 1) = allN ⟨ocl, osq, okd, oac, ope, osm, olg, opr, ohd, ont⟩ k ++ [olg[k].nm]) := allN_next _ k hlt
      generalize olg[k] = g at *
      obtain ⟨nm, sm⟩ := g
      simp only at q0 q1
      have HOWN := Lib.hid hown
      have HFR := Lib.hid hfr
      have HNEW := Lib.hid hnew
      have HLT : Hid (k + 1 ≤ olg.length) := hlt
      have hk62 : (k : Int) < 9223372036854775807 := by have := HL.out; omega
      clear hown hfr hnew hok
      have hbx := Blk.new wr 56 #[.string nm, .int .i64 sm]
      have hfx : Fr No wr (wr.alloc (.cells #[.string nm, .int .i64 sm] 56)) := (Fr.refl _ _).alloc _
      have hox := HOWN.out.alloc (.cells #[.string nm, .int .i64 sm] 56)
      have hsx : wr.heap.size ≤ (wr.alloc (.cells #[.string nm, .int .i64 sm] 56)).heap.size := hfx.size
      go_upto_region 5 with (fail)
      generalize hwl : wr.alloc (.cells #[.string nm, .int .i64 sm] 56) = wl at *
      clear hwl q0 q1
      have q0 := hbx.cell 0
      simp only [List.getElem?_toArray, List.getElem?_cons_zero, List.getElem?_cons_succ] at q0
      have HOX := Lib.hid hox
      have HFX := Lib.hid hfx
      have HSX := Lib.hid hsx
      have HBD : Hid (2 + k + 1 ≤ maxLen ∧ (2 + k + 1) * 16 ≤ 140737488355328) := ⟨by have := HL.out; unfold maxLen; omega, by have := HL.out; omega⟩
      clear hbx hfx hox hsx
      go_wp2_with (at_builtin; refine wpList_app _ rfl (.tmp 18) (.tmp 21) 38 38 rfl elS (HOX.out.alloc _) rfl (Src.of_new wl.heap.size (heap_alloc_new wl _) Try.underlying38 rfl (by simp [Value.oneCell'])) rfl HBD.out.1 HBD.out.2 ?_; intro v1 w5 hown1 hfr1 hnew1)
      go_roundw
      case rel =>
        obtain ⟨A1, c1, rfl, _, _⟩ := hown1.form
        have hfo := Fr.trans (HFX.out.alloc (.cells #[.string nm] 9)) (Fr.refl No _)
        have := HLT.out
        refine ⟨k + 1, A1, c1, by simp only; omega, by simp only [Nat.add_assoc], by go_num, ?_, ?_, ?_⟩
        · rw [HAN.out, ts_append, ← Nat.add_assoc]
          exact hown1
        · exact fr_no (HFR.out.trans hfo) HNEW.out hfr1
        · rw [← Nat.add_assoc]
          refine HNEW.out.trans (Newer.of hnew1) ?_
          have := HFR.out.size
          have := HSX.out
          simp
          omega
      case measure => have := HLT.out; simp [intOf]; omega
    · obtain rfl : k = olg.length := by omega
      rcases hown.2 with ⟨h0, h1⟩ | ⟨g, cap, cur, hg, _⟩
      · omega
      cases hg
      have hlen : (allN ⟨ocl, osq, okd, oac, ope, osm, olg, opr, ohd, ont⟩ olg.length).length = 2 + olg.length := allN_length _ _ (Nat.le_refl _)
      have hnm : ((allN ⟨ocl, osq, okd, oac, ope, osm, olg, opr, ohd, ont⟩ olg.length).filter fun s => !s.isEmpty) = namesO ⟨ocl, osq, okd, oac, ope, osm, olg, opr, ohd, ont⟩ := rfl
      rw [← hlen] at hown hnew
      have hle : (allN ⟨ocl, osq, okd, oac, ope, osm, olg, opr, ohd, ont⟩ olg.length).length ≤ 1000000 := by have := HL.out; omega
      have HLEN := Lib.hid hlen
      have hd := delS_any 45 (fun s => s.isEmpty) _ g c wr hown hle (enters_of Try.func45 (by kernel_rfl) rfl) (fun W x => touchF_any W x)
      rw [hlen, hnm] at hd
      have hl2 : (namesO ⟨ocl, osq, okd, oac, ope, osm, olg, opr, ohd, ont⟩).length ≤ 1000000 := by
        rw [← hnm]
        exact Nat.le_trans (List.length_filter_le _ _) hle
      have hl3 : ((namesO ⟨ocl, osq, okd, oac, ope, osm, olg, opr, ohd, ont⟩).mergeSort fun x y => decide (x ≤ y)).length = (namesO ⟨ocl, osq, okd, oac, ope, osm, olg, opr, ohd, ont⟩).length := List.length_mergeSort _
      have hup : compact ((namesO ⟨ocl, osq, okd, oac, ope, osm, olg, opr, ohd, ont⟩).mergeSort fun x y => decide (x ≤ y)) = touchL ⟨ocl, osq, okd, oac, ope, osm, olg, opr, ohd, ont⟩ := rfl
      generalize touchL ⟨ocl, osq, okd, oac, ope, osm, olg, opr, ohd, ont⟩ = T at *
      generalize namesO ⟨ocl, osq, okd, oac, ope, osm, olg, opr, ohd, ont⟩ = N at *
      have HSO := Lib.hid (fun W h => sortS_any N g c W h hl2)
      have HCO := Lib.hid (fun W h => compS_any (N.mergeSort fun x y => decide (x ≤ y)) g c W h (by rw [hl3]; exact hl2))
      rw [hl3, hup] at HCO
      have HD := Lib.hid hd
      have HFR := Lib.hid (HF.out.trans hfr)
      have hg : w1.heap.size ≤ g := newer_none hnew g rfl
      have HG := Lib.hid (Nat.le_trans HF.out.size hg)
      clear hd hl2 hl3 hup hnm hle hown hnew hfr hg
      go_wp2_with fail
      refine HD.out.mono ?_
      rintro e u1 ⟨rfl, ho1, hf1⟩
      have HO1 := Lib.hid (HSO.out u1 ho1)
      clear ho1
      go_wp2_with fail
      refine HO1.out.mono ?_
      rintro e u2 ⟨rfl, ho2, hf2⟩
      have HO2 := Lib.hid (HCO.out u2 ho2)
      clear ho2
      go_wp2_with fail
      refine HO2.out.mono ?_
      rintro e u3 ⟨rfl, ho3, hf3⟩
      go_wp2
      go_ret
      have hf := hf1.trans (hf2.trans hf3)
      exact ⟨_, rfl, ho3, (HFR.out.trans' hf (fun i hi hlt => by have := HG.out; have e : i = g := hi; omega)).mono (fun _ _ h => (h : False).elim), .inr ⟨g, rfl, HG.out⟩⟩
end Go.Proofs.Ytnphncemghfkbaa
