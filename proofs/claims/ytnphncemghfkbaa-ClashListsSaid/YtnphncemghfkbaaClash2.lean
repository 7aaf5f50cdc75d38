/- slices.Contains of texts; an order marked with its accounts; clash.Clash. -/
import Derived.Test.YtnphncemghfkbaaClash1
import Derived.Test.YtnphncemghfkbaaClashMath
namespace Go.Proofs.Ytnphncemghfkbaa
open Go.RowKit Go.My Go.Maps
set_option linter.unusedSimpArgs false
set_option linter.unusedVariables false
attribute [local go_sem ↓] Go.wp_at_zero Go.wp_at_succ

def InRel (w : World) (L : List (List UInt8)) (s : List UInt8) (iv : Value) (wr : World) : Prop := ∃ k : Nat, k ≤ L.length ∧ iv = .int .i64 k ∧ (∀ x ∈ L.take k, x ≠ s) ∧ wr = w
set_option maxRecDepth 100000 in
theorem indexT_any (F : Nat → Prop) (A : Option Addr) (c : Nat) (L : List (List UInt8)) (s : List UInt8) (w : World) (hr : Rd w F 1 A L.length (ts L)) (hl : L.length ≤ 1000000) :
    Calls Try.prog 49 #[.slice A L.length c, .string ⟨s.toArray⟩] w fun e w' => (∃ n : Int, e = .returned (.int .i64 n) ∧ (0 ≤ n ↔ s ∈ L)) ∧ w' = w := by
  have HR := Lib.hid hr
  have HL := Lib.hid hl
  clear hr hl
  go_enter Try.func49, Try.ntmps49
  go_wp2
  go_loopw [8] (fun iv wr => InRel w L s iv wr) (fun iv _ => L.length - (intOf iv).toNat)
  case atStart => exact ⟨0, Nat.zero_le _, rfl, fun x hx => by simp at hx, rfl⟩
  case round =>
    obtain ⟨k, hk, rfl, hno, rfl⟩ := hrel
    have hk62 : (k : Int) < 9223372036854775807 := by have := HL.out; omega
    by_cases hlt : k < L.length
    · obtain ⟨ad, hl, rfl, _, q0⟩ := tsAt HR.out k hlt
      have HTK : Hid (L.take (k + 1) = L.take k ++ [L[k]]) := List.take_succ_eq_append_getElem hlt
      have HM : Hid (L[k] ∈ L) := List.getElem_mem hlt
      have HNO := Lib.hid hno
      have HLT : Hid (k + 1 ≤ L.length) := hlt
      generalize L[k] = x at *
      clear hno
      by_cases hx : x = s
      · subst hx
        go_wp2
        go_ret
        exact ⟨⟨(k : Int), rfl, fun _ => HM.out, fun _ => by omega⟩, rfl⟩
      · have hz1 : (s == x) = false := beq_eq_false_iff_ne.2 (fun e => hx e.symm)
        have hz2 : ((⟨s.toArray⟩ : ByteArray).toList == (⟨x.toArray⟩ : ByteArray).toList) = false := by rw [ByteArray.toList_eq, ByteArray.toList_eq]; exact hz1
        have HX := Lib.hid hx
        clear hx
        go_wp2
        go_roundw
        case rel =>
          refine ⟨k + 1, HLT.out, by go_num, fun y hy => ?_, rfl⟩
          rw [HTK.out, List.mem_append, List.mem_singleton] at hy
          rcases hy with hy | hy
          · exact HNO.out y hy
          · rw [hy]; exact HX.out
        case measure => have := HLT.out; simp [intOf]; omega
    · obtain rfl : k = L.length := by omega
      have HN : Hid (s ∉ L) := by
        rw [List.take_length] at hno
        exact fun h => hno s h rfl
      clear hno
      go_wp2
      go_ret
      exact ⟨⟨-1, rfl, fun h => by omega, fun h => absurd h HN.out⟩, rfl⟩
theorem containsT_any (F : Nat → Prop) (A : Option Addr) (c : Nat) (L : List (List UInt8)) (s : List UInt8) (w : World) (hr : Rd w F 1 A L.length (ts L)) (hl : L.length ≤ 1000000) :
    Calls Try.prog 37 #[.slice A L.length c, .string ⟨s.toArray⟩] w fun e w' => e = .returned (.bool (decide (s ∈ L))) ∧ w' = w := by
  have HX := Lib.hid (indexT_any F A c L s w hr hl)
  clear hr hl
  go_enter Try.func37, Try.ntmps37
  go_wp2_with fail
  refine HX.out.mono ?_
  rintro e w1 ⟨⟨n, rfl, hn⟩, rfl⟩
  have HE : Hid (decide (0 ≤ n) = decide (s ∈ L)) := decide_eq_decide.2 hn
  clear hn HX
  go_wp2
  go_ret
  exact ⟨by rw [← HE.out]; rfl, rfl⟩
theorem fr_set11 (w : World) (g : Nat) (a0 a1 a2 a3 a4 a5 a6 a7 a8 a9 a10 : Value) : Fr (At1 g) w (((((((((((w.setCell ⟨g, 0, none⟩ a0).setCell ⟨g, 1, none⟩ a1).setCell ⟨g, 2, none⟩ a2).setCell ⟨g, 3, none⟩ a3).setCell ⟨g, 4, none⟩ a4).setCell ⟨g, 5, none⟩ a5).setCell ⟨g, 6, none⟩ a6).setCell ⟨g, 7, none⟩ a7).setCell ⟨g, 8, none⟩ a8).setCell ⟨g, 9, none⟩ a9).setCell ⟨g, 10, none⟩ a10) := ((((((((((fr_set w g 0 a0).trans (fr_set _ g 1 a1)).trans (fr_set _ g 2 a2)).trans (fr_set _ g 3 a3)).trans (fr_set _ g 4 a4)).trans (fr_set _ g 5 a5)).trans (fr_set _ g 6 a6)).trans (fr_set _ g 7 a7)).trans (fr_set _ g 8 a8)).trans (fr_set _ g 9 a9)).trans (fr_set _ g 10 a10)
theorem blk_set11 {w : World} {g : Nat} {t : TypeId} {x0 x1 x2 x3 x4 x5 x6 x7 x8 x9 x10 : Value} (h : Blk w g t #[x0, x1, x2, x3, x4, x5, x6, x7, x8, x9, x10]) (a0 a1 a2 a3 a4 a5 a6 a7 a8 a9 a10 : Value) : Blk (((((((((((w.setCell ⟨g, 0, none⟩ a0).setCell ⟨g, 1, none⟩ a1).setCell ⟨g, 2, none⟩ a2).setCell ⟨g, 3, none⟩ a3).setCell ⟨g, 4, none⟩ a4).setCell ⟨g, 5, none⟩ a5).setCell ⟨g, 6, none⟩ a6).setCell ⟨g, 7, none⟩ a7).setCell ⟨g, 8, none⟩ a8).setCell ⟨g, 9, none⟩ a9).setCell ⟨g, 10, none⟩ a10) g t #[a0, a1, a2, a3, a4, a5, a6, a7, a8, a9, a10] := by
  have h0 : Blk (w.setCell ⟨g, 0, none⟩ a0) g t #[a0, x1, x2, x3, x4, x5, x6, x7, x8, x9, x10] := h.set_ 0 a0
  have h1 : Blk ((w.setCell ⟨g, 0, none⟩ a0).setCell ⟨g, 1, none⟩ a1) g t #[a0, a1, x2, x3, x4, x5, x6, x7, x8, x9, x10] := h0.set_ 1 a1
  have h2 : Blk (((w.setCell ⟨g, 0, none⟩ a0).setCell ⟨g, 1, none⟩ a1).setCell ⟨g, 2, none⟩ a2) g t #[a0, a1, a2, x3, x4, x5, x6, x7, x8, x9, x10] := h1.set_ 2 a2
  have h3 : Blk ((((w.setCell ⟨g, 0, none⟩ a0).setCell ⟨g, 1, none⟩ a1).setCell ⟨g, 2, none⟩ a2).setCell ⟨g, 3, none⟩ a3) g t #[a0, a1, a2, a3, x4, x5, x6, x7, x8, x9, x10] := h2.set_ 3 a3
  have h4 : Blk (((((w.setCell ⟨g, 0, none⟩ a0).setCell ⟨g, 1, none⟩ a1).setCell ⟨g, 2, none⟩ a2).setCell ⟨g, 3, none⟩ a3).setCell ⟨g, 4, none⟩ a4) g t #[a0, a1, a2, a3, a4, x5, x6, x7, x8, x9, x10] := h3.set_ 4 a4
  have h5 : Blk ((((((w.setCell ⟨g, 0, none⟩ a0).setCell ⟨g, 1, none⟩ a1).setCell ⟨g, 2, none⟩ a2).setCell ⟨g, 3, none⟩ a3).setCell ⟨g, 4, none⟩ a4).setCell ⟨g, 5, none⟩ a5) g t #[a0, a1, a2, a3, a4, a5, x6, x7, x8, x9, x10] := h4.set_ 5 a5
  have h6 : Blk (((((((w.setCell ⟨g, 0, none⟩ a0).setCell ⟨g, 1, none⟩ a1).setCell ⟨g, 2, none⟩ a2).setCell ⟨g, 3, none⟩ a3).setCell ⟨g, 4, none⟩ a4).setCell ⟨g, 5, none⟩ a5).setCell ⟨g, 6, none⟩ a6) g t #[a0, a1, a2, a3, a4, a5, a6, x7, x8, x9, x10] := h5.set_ 6 a6
  have h7 : Blk ((((((((w.setCell ⟨g, 0, none⟩ a0).setCell ⟨g, 1, none⟩ a1).setCell ⟨g, 2, none⟩ a2).setCell ⟨g, 3, none⟩ a3).setCell ⟨g, 4, none⟩ a4).setCell ⟨g, 5, none⟩ a5).setCell ⟨g, 6, none⟩ a6).setCell ⟨g, 7, none⟩ a7) g t #[a0, a1, a2, a3, a4, a5, a6, a7, x8, x9, x10] := h6.set_ 7 a7
  have h8 : Blk (((((((((w.setCell ⟨g, 0, none⟩ a0).setCell ⟨g, 1, none⟩ a1).setCell ⟨g, 2, none⟩ a2).setCell ⟨g, 3, none⟩ a3).setCell ⟨g, 4, none⟩ a4).setCell ⟨g, 5, none⟩ a5).setCell ⟨g, 6, none⟩ a6).setCell ⟨g, 7, none⟩ a7).setCell ⟨g, 8, none⟩ a8) g t #[a0, a1, a2, a3, a4, a5, a6, a7, a8, x9, x10] := h7.set_ 8 a8
  have h9 : Blk ((((((((((w.setCell ⟨g, 0, none⟩ a0).setCell ⟨g, 1, none⟩ a1).setCell ⟨g, 2, none⟩ a2).setCell ⟨g, 3, none⟩ a3).setCell ⟨g, 4, none⟩ a4).setCell ⟨g, 5, none⟩ a5).setCell ⟨g, 6, none⟩ a6).setCell ⟨g, 7, none⟩ a7).setCell ⟨g, 8, none⟩ a8).setCell ⟨g, 9, none⟩ a9) g t #[a0, a1, a2, a3, a4, a5, a6, a7, a8, a9, x10] := h8.set_ 9 a9
  have h10 : Blk (((((((((((w.setCell ⟨g, 0, none⟩ a0).setCell ⟨g, 1, none⟩ a1).setCell ⟨g, 2, none⟩ a2).setCell ⟨g, 3, none⟩ a3).setCell ⟨g, 4, none⟩ a4).setCell ⟨g, 5, none⟩ a5).setCell ⟨g, 6, none⟩ a6).setCell ⟨g, 7, none⟩ a7).setCell ⟨g, 8, none⟩ a8).setCell ⟨g, 9, none⟩ a9).setCell ⟨g, 10, none⟩ a10) g t #[a0, a1, a2, a3, a4, a5, a6, a7, a8, a9, a10] := h9.set_ 10 a10
  exact h10
/-- a marked order's cells -/
def mkd (o : Od) (v a : Value) : Value := .agg (o.cs v ++ [a]).toArray
theorem mark_any (F : Nat → Prop) (o : Od) (v : Value) (w : World) (hv : LgS w F v o.legs) (hl : o.legs.length ≤ 100000) :
    Calls Try.prog 21 #[o.val v] w fun e w' => ∃ A c, e = .returned (mkd o v (.slice A (touchL o).length c)) ∧ Own w' 9 1 (.slice A (touchL o).length c) (touchL o).length (ts (touchL o)) ∧ (touchL o).length ≤ c ∧ c ≤ maxLen ∧ Fr No w w' ∧ ∀ k, (Value.slice A (touchL o).length c).ownBlock = some k → w.heap.size ≤ k := by
  have HT : Hid (∀ W, Fr No w W → Calls Try.prog 34 #[o.val v] W (RetOwn W 9 1 none (touchL o).length (ts (touchL o)))) := fun W hW => touches_any F o v W (hv.no hW) hl
  obtain ⟨vB, vd, rfl, -, -⟩ := hv.form
  generalize touchL o = T at *
  generalize o.legs.length = vn at *
  clear hv hl
  obtain ⟨ocl, osq, okd, oac, ope, osm, olg, opr, ohd, ont⟩ := o
  unfold mkd Od.val Od.cs at *
  simp only at HT ⊢
  have hbo := Blk.new w 30 #[.int .i64 ocl, .int .i64 osq, .int .i64 okd, .string oac, .string ope, .int .i64 osm, .slice vB vn vd, .int .i64 opr, .int .i64 ohd, .string ont]
  go_enter Try.func21, Try.ntmps21
  have hbz := Blk.new (w.alloc (.cells #[.int .i64 ocl, .int .i64 osq, .int .i64 okd, .string oac, .string ope, .int .i64 osm, .slice vB vn vd, .int .i64 opr, .int .i64 ohd, .string ont] 30)) 40 #[.int .i64 0, .int .i64 0, .int .i64 0, .string ⟨#[]⟩, .string ⟨#[]⟩, .int .i64 0, .slice none 0 0, .int .i64 0, .int .i64 0, .string ⟨#[]⟩, .slice none 0 0]
  rw [World.size_alloc] at hbz
  have hbo1 := hbo.alloc (.cells #[.int .i64 0, .int .i64 0, .int .i64 0, .string ⟨#[]⟩, .string ⟨#[]⟩, .int .i64 0, .slice none 0 0, .int .i64 0, .int .i64 0, .string ⟨#[]⟩, .slice none 0 0] 40)
  have hf1 : Fr No w ((w.alloc (.cells #[.int .i64 ocl, .int .i64 osq, .int .i64 okd, .string oac, .string ope, .int .i64 osm, .slice vB vn vd, .int .i64 opr, .int .i64 ohd, .string ont] 30)).alloc (.cells #[.int .i64 0, .int .i64 0, .int .i64 0, .string ⟨#[]⟩, .string ⟨#[]⟩, .int .i64 0, .slice none 0 0, .int .i64 0, .int .i64 0, .string ⟨#[]⟩, .slice none 0 0] 40)) := ((Fr.refl _ _).alloc _).alloc _
  clear hbo
  go_upto_region 1 with (fail)
  generalize (w.alloc (.cells #[.int .i64 ocl, .int .i64 osq, .int .i64 okd, .string oac, .string ope, .int .i64 osm, .slice vB vn vd, .int .i64 opr, .int .i64 ohd, .string ont] 30)).alloc (.cells #[.int .i64 0, .int .i64 0, .int .i64 0, .string ⟨#[]⟩, .string ⟨#[]⟩, .int .i64 0, .slice none 0 0, .int .i64 0, .int .i64 0, .string ⟨#[]⟩, .slice none 0 0] 40) = w2 at *
  have HBZ := Lib.hid hbz
  have HF1 := Lib.hid hf1
  have HX : Hid (∀ W, Fr (At1 (w.heap.size + 1)) w2 W → Fr (At1 (w.heap.size + 1)) w2 W ∧ W.cell? ⟨w.heap.size, 0, none⟩ = some (.int .i64 ocl) ∧ W.cell? ⟨w.heap.size, 1, none⟩ = some (.int .i64 osq) ∧ W.cell? ⟨w.heap.size, 2, none⟩ = some (.int .i64 okd) ∧ W.cell? ⟨w.heap.size, 3, none⟩ = some (.string oac) ∧ W.cell? ⟨w.heap.size, 4, none⟩ = some (.string ope) ∧ W.cell? ⟨w.heap.size, 5, none⟩ = some (.int .i64 osm) ∧ W.cell? ⟨w.heap.size, 6, none⟩ = some (.slice vB vn vd) ∧ W.cell? ⟨w.heap.size, 7, none⟩ = some (.int .i64 opr) ∧ W.cell? ⟨w.heap.size, 8, none⟩ = some (.int .i64 ohd) ∧ W.cell? ⟨w.heap.size, 9, none⟩ = some (.string ont)) := fun W hW => by
    have h1 := hbo1.fr hW (fun e => by have : w.heap.size = w.heap.size + 1 := e; omega)
    exact ⟨hW, h1.cell 0, h1.cell 1, h1.cell 2, h1.cell 3, h1.cell 4, h1.cell 5, h1.cell 6, h1.cell 7, h1.cell 8, h1.cell 9⟩
  have hk0 : Fr (At1 (w.heap.size + 1)) w2 w2.drew := (Fr.refl _ w2).drew
  clear hbz hbo1 hf1
  go_region_held3 (fun W => Fr (At1 (w.heap.size + 1)) w2 W ∧ W.cell? ⟨w.heap.size, 0, none⟩ = some (.int .i64 ocl) ∧ W.cell? ⟨w.heap.size, 1, none⟩ = some (.int .i64 osq) ∧ W.cell? ⟨w.heap.size, 2, none⟩ = some (.int .i64 okd) ∧ W.cell? ⟨w.heap.size, 3, none⟩ = some (.string oac) ∧ W.cell? ⟨w.heap.size, 4, none⟩ = some (.string ope) ∧ W.cell? ⟨w.heap.size, 5, none⟩ = some (.int .i64 osm) ∧ W.cell? ⟨w.heap.size, 6, none⟩ = some (.slice vB vn vd) ∧ W.cell? ⟨w.heap.size, 7, none⟩ = some (.int .i64 opr) ∧ W.cell? ⟨w.heap.size, 8, none⟩ = some (.int .i64 ohd) ∧ W.cell? ⟨w.heap.size, 9, none⟩ = some (.string ont))
    (first
      | (with_reducible refine HX.out _ ?_; with_reducible assumption)
      | (with_reducible refine HX.out _ (Fr.trans ?_ (fr_set11 _ _ _ _ _ _ _ _ _ _ _ _ _)); with_reducible assumption)
      | (with_reducible refine HX.out _ (Fr.drew ?_); with_reducible first | assumption | exact Fr.refl _ w2))
    (first
      | (go_at_call 34; (with_reducible refine (HT.out _ HF1.out.drew).mono ?_); rintro e q1 ⟨v1, rfl, ho1, hg1, hn1⟩; obtain ⟨A1, c1, rfl, hl1, hm1⟩ := ho1.form; have kn := fr_at_none hg1; have ka1 : Fr (At1 (w.heap.size + 1)) w2 q1 := hk0.trans (kn.mono fun _ _ h => False.elim h); have hz := (HBZ.out.drew).fr kn (fun h => h); have y0 := hz.cell 0; have y1 := hz.cell 1; have y2 := hz.cell 2; have y3 := hz.cell 3; have y4 := hz.cell 4; have y5 := hz.cell 5; have y6 := hz.cell 6; have y7 := hz.cell 7; have y8 := hz.cell 8; have y9 := hz.cell 9; have y10 := hz.cell 10; have z0 := hz.frozen 0; have z1 := hz.frozen 1; have z2 := hz.frozen 2; have z3 := hz.frozen 3; have z4 := hz.frozen 4; have z5 := hz.frozen 5; have z6 := hz.frozen 6; have z7 := hz.frozen 7; have z8 := hz.frozen 8; have z9 := hz.frozen 9; have z10 := hz.frozen 10; simp only [List.getElem?_toArray, List.getElem?_cons_zero, List.getElem?_cons_succ] at y0 y1 y2 y3 y4 y5 y6 y7 y8 y9 y10; clear hg1))
  have hd := blk_set11 hz (.int .i64 ocl) (.int .i64 osq) (.int .i64 okd) (.string oac) (.string ope) (.int .i64 osm) (.slice vB vn vd) (.int .i64 opr) (.int .i64 ohd) (.string ont) (.slice A1 T.length c1)
  have hfin := fr_set11 q1 (w.heap.size + 1) (.int .i64 ocl) (.int .i64 osq) (.int .i64 okd) (.string oac) (.string ope) (.int .i64 osm) (.slice vB vn vd) (.int .i64 opr) (.int .i64 ohd) (.string ont) (.slice A1 T.length c1)
  have HDD := Lib.hid hd
  have HO := Lib.hid (ho1.fr hfin (fun k hk e => by
    obtain ⟨cur, hb⟩ := ho1.blk k hk
    exact Blk.ne_ hb hz (by decide) e))
  have HFF : Hid (Fr No w _) := (HF1.out.drew.trans kn).trans' hfin (fun i hi hlt => by have : i = w.heap.size + 1 := hi; omega)
  have HN : Hid (∀ k, (Value.slice A1 T.length c1).ownBlock = some k → w.heap.size ≤ k) := fun k hk => by
    have h1 : w2.heap.size ≤ k := newer_none hn1 k hk
    have h2 := HF1.out.size
    omega
  clear hd hfin hz kn ka1 hn1 ho1 hk0 HX HT y0 y1 y2 y3 y4 y5 y6 y7 y8 y9 y10 z0 z1 z2 z3 z4 z5 z6 z7 z8 z9 z10
  generalize (((((((((((q1.setCell ⟨w.heap.size + 1, 0, none⟩ (.int .i64 ocl)).setCell ⟨w.heap.size + 1, 1, none⟩ (.int .i64 osq)).setCell ⟨w.heap.size + 1, 2, none⟩ (.int .i64 okd)).setCell ⟨w.heap.size + 1, 3, none⟩ (.string oac)).setCell ⟨w.heap.size + 1, 4, none⟩ (.string ope)).setCell ⟨w.heap.size + 1, 5, none⟩ (.int .i64 osm)).setCell ⟨w.heap.size + 1, 6, none⟩ (.slice vB vn vd)).setCell ⟨w.heap.size + 1, 7, none⟩ (.int .i64 opr)).setCell ⟨w.heap.size + 1, 8, none⟩ (.int .i64 ohd)).setCell ⟨w.heap.size + 1, 9, none⟩ (.string ont)).setCell ⟨w.heap.size + 1, 10, none⟩ (.slice A1 T.length c1)) = qf at *
  go_wp2
  have hd := HDD.out
  have d0 := hd.cell 0
  have d1 := hd.cell 1
  have d2 := hd.cell 2
  have d3 := hd.cell 3
  have d4 := hd.cell 4
  have d5 := hd.cell 5
  have d6 := hd.cell 6
  have d7 := hd.cell 7
  have d8 := hd.cell 8
  have d9 := hd.cell 9
  have d10 := hd.cell 10
  simp only [List.getElem?_toArray, List.getElem?_cons_zero, List.getElem?_cons_succ] at d0 d1 d2 d3 d4 d5 d6 d7 d8 d9 d10
  refine bodyPost_ret (v := .agg #[.int .i64 ocl, .int .i64 osq, .int .i64 okd, .string oac, .string ope, .int .i64 osm, .slice vB vn vd, .int .i64 opr, .int .i64 ohd, .string ont, .slice A1 T.length c1]) (by simp [results, Try.results21, go_sem, d0, d1, d2, d3, d4, d5, d6, d7, d8, d9, d10]) rfl ?_
  exact ⟨A1, c1, rfl, HO.out, hl1, hm1, HFF.out, HN.out⟩
end Go.Proofs.Ytnphncemghfkbaa
