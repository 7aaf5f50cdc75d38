/- A text put into a row in order: of no program. The document's own Touches and SameTexts. -/
import Derived.Test.YtnphncemghfkbaaGreatQ02
import Derived.Sort.Walk0
import Derived.Test.YtnphncemghfkbaaGreatOrdT
import Derived.Test.YtnphncemghfkbaaGreatRefName
import Derived.Deep.RegionLaw
import Derived.Deep.RegionHeldLaw
import Derived.Deep.CutBlock
import Derived.Deep.DeepCutAuto
set_option linter.unusedSimpArgs false
set_option linter.unusedVariables false
namespace Go.My
open Go Go.RowKit Go.Sort Go.Lib Go.Proofs

theorem before_eq : ∀ (x y : List UInt8), bytesBefore x y = decide (x < y)
  | [], [] => by simp [bytesBefore]
  | _ :: _, [] => by simp [bytesBefore]
  | [], _ :: _ => by simp [bytesBefore]
  | a :: x, b :: y => by
    rw [bytesBefore, before_eq x y]
    simp only [List.cons_lt_cons_iff]
    by_cases h1 : a < b <;> by_cases h2 : a = b <;> by_cases h3 : x < y <;> simp [h1, h2, h3]
theorem ins_new {O : List (List UInt8)} {x : List UInt8} {k : Nat} (hU : Up O) (hk : k ≤ O.length) (hall : ∀ i (h : i < O.length), k ≤ i → bytesBefore x O[i] = true)
    (hno : ∀ (_ : 0 < k) (h2 : k - 1 < O.length), bytesBefore x O[k - 1] = false ∧ O[k - 1] ≠ x) : Up (O.take k ++ x :: O.drop k) ∧ ∀ s, s ∈ O.take k ++ x :: O.drop k ↔ s ∈ O ∨ s = x := by
  constructor
  · unfold Up
    rw [List.pairwise_append]
    refine ⟨hU.sublist (List.take_sublist _ _), ?_, ?_⟩
    · rw [List.pairwise_cons]
      refine ⟨fun y hy => ?_, hU.sublist (List.drop_sublist _ _)⟩
      obtain ⟨i, hi, rfl⟩ := List.mem_iff_getElem.1 hy
      rw [List.getElem_drop]
      have h := hall (k + i) (by rw [List.length_drop] at hi; omega) (by omega)
      rw [before_eq] at h
      exact of_decide_eq_true h
    · intro a ha b hb
      have hlt : a < x := by
        obtain ⟨i, hi, rfl⟩ := List.mem_iff_getElem.1 ha
        rw [List.length_take] at hi
        rw [List.getElem_take]
        obtain ⟨h1, h2⟩ := hno (by omega) (by omega)
        rw [before_eq] at h1
        have h3 : O[k - 1] < x := str_le_ne (List.not_lt.1 (of_decide_eq_false h1)) h2
        by_cases e : i = k - 1
        · subst e; exact h3
        · exact str_trans (List.pairwise_iff_getElem.1 hU i (k - 1) (by omega) (by omega) (by omega)) h3
      rcases List.mem_cons.1 hb with rfl | hb
      · exact hlt
      · obtain ⟨i, hi, rfl⟩ := List.mem_iff_getElem.1 hb
        rw [List.getElem_drop]
        have h := hall (k + i) (by rw [List.length_drop] at hi; omega) (by omega)
        rw [before_eq] at h
        exact str_trans hlt (of_decide_eq_true h)
  · intro s
    rw [List.mem_append, List.mem_cons]
    constructor
    · rintro (h | h | h)
      · exact .inl (List.mem_of_mem_take h)
      · exact .inr h
      · exact .inl (List.mem_of_mem_drop h)
    · rintro (h | h)
      · rw [← List.take_append_drop k O, List.mem_append] at h
        rcases h with h | h
        · exact .inl h
        · exact .inr (.inr h)
      · exact .inr (.inl h)
/-- the names of N's first i texts, in order -/
def InO (N : List (List UInt8)) (i : Nat) (O : List (List UInt8)) : Prop := Up O ∧ ∀ s, s ∈ O ↔ s ∈ N.take i ∧ s ≠ []
theorem InO.start (N : List (List UInt8)) : InO N 0 [] := ⟨List.Pairwise.nil, fun s => by simp⟩
theorem mem_take_next {N : List (List UInt8)} {i : Nat} (hi : i < N.length) (s : List UInt8) : s ∈ N.take (i + 1) ↔ s ∈ N.take i ∨ s = N[i] := by
  rw [List.take_succ_eq_append_getElem hi, List.mem_append, List.mem_singleton]
theorem InO.empty {N O : List (List UInt8)} {i : Nat} (h : InO N i O) (hi : i < N.length) (hx : N[i] = []) : InO N (i + 1) O := ⟨h.1, fun s => by
  rw [h.2 s, mem_take_next hi]
  constructor
  · rintro ⟨a, b⟩; exact ⟨.inl a, b⟩
  · rintro ⟨a | a, b⟩
    · exact ⟨a, b⟩
    · rw [hx] at a; exact absurd a b⟩
theorem InO.there {N O : List (List UInt8)} {i : Nat} (h : InO N i O) (hi : i < N.length) (hx : N[i] ∈ O) : InO N (i + 1) O := ⟨h.1, fun s => by
  rw [h.2 s, mem_take_next hi]
  constructor
  · rintro ⟨a, b⟩; exact ⟨.inl a, b⟩
  · rintro ⟨a | a, b⟩
    · exact ⟨a, b⟩
    · subst a; exact (h.2 _).1 hx⟩
theorem InO.put {N O : List (List UInt8)} {i k : Nat} (h : InO N i O) (hi : i < N.length) (hn : N[i] ≠ []) (hk : k ≤ O.length) (hall : ∀ j (h : j < O.length), k ≤ j → bytesBefore N[i] O[j] = true)
    (hno : ∀ (_ : 0 < k) (h2 : k - 1 < O.length), bytesBefore N[i] O[k - 1] = false ∧ O[k - 1] ≠ N[i]) : InO N (i + 1) (O.take k ++ N[i] :: O.drop k) := by
  obtain ⟨h1, h2⟩ := ins_new h.1 hk hall hno
  refine ⟨h1, fun s => ?_⟩
  rw [h2 s, h.2 s, mem_take_next hi]
  constructor
  · rintro (⟨a, b⟩ | a)
    · exact ⟨.inl a, b⟩
    · subst a; exact ⟨.inr rfl, hn⟩
  · rintro ⟨a | a, b⟩
    · exact .inl ⟨a, b⟩
    · exact .inr a
theorem InO.done {N O : List (List UInt8)} {i : Nat} (h : InO N i O) (hi : N.length ≤ i) : O = upOf (N.filter fun s => !s.isEmpty) := by
  refine upOf_eq h.1 fun s => ?_
  rw [h.2 s, List.take_of_length_le hi, List.mem_filter]
  cases s <;> simp
theorem InO.length {N O : List (List UInt8)} {i : Nat} (h : InO N i O) : O.length ≤ N.length := by
  have e : O = upOf ((N.take i).filter fun s => !s.isEmpty) := upOf_eq h.1 fun s => by
    rw [h.2 s, List.mem_filter]
    cases s <;> simp
  rw [e]
  refine Nat.le_trans (upOf_length _) (Nat.le_trans (List.length_filter_le _ _) ?_)
  rw [List.length_take]
  omega
end Go.My
namespace Go.Proofs.YtnphncemghfkbaaGreat
open Go.RowKit Go.My Go.Maps Go.Sort Go.Lib
set_option linter.unusedSimpArgs false
set_option linter.unusedVariables false
attribute [local go_sem ↓] Go.wp_at_zero Go.wp_at_succ

def StRel (w : World) (L M : List (List UInt8)) (iv : Value) (wr : World) : Prop := ∃ k : Nat, k ≤ L.length ∧ iv = .int .i64 k ∧ L.take k = M.take k ∧ Fr No w wr
def sameL (L M : List (List UInt8)) : Bool := decide (L = M)
theorem Own.rdN {w : World} {t : TypeId} {A : Option Addr} {n c : Nat} {xs : List Value} (h : Own w t 1 (.slice A n c) n xs) : Rd w (fun _ => True) 1 A n xs := h.rd.more (fun _ _ => True.intro)
def T2Rel (w6 : World) (N : List (List UInt8)) (ov iv : Value) (wr : World) : Prop :=
  ∃ i A c O, i ≤ N.length ∧ iv = .int .i64 (i : Nat) ∧ InO N i O ∧ ov = .slice A O.length c ∧ O.length ≤ c ∧ c ≤ maxLen ∧ Own wr 9 1 (.slice A O.length c) O.length (ts O) ∧ Fr No w6 wr ∧ Newer w6.heap.size none (Value.slice A O.length c).ownBlock
def T3Rel (w7 : World) (O : List (List UInt8)) (x : List UInt8) (kv : Value) (wr : World) : Prop := ∃ k : Nat, k ≤ O.length ∧ kv = .int .i64 k ∧ (∀ j (h : j < O.length), k ≤ j → bytesBefore x O[j] = true) ∧ Fr No w7 wr
def T3End (w7 : World) (O : List (List UInt8)) (x : List UInt8) (kv : Value) (wr : World) : Prop := ∃ k : Nat, k ≤ O.length ∧ kv = .int .i64 k ∧ (∀ j (h : j < O.length), k ≤ j → bytesBefore x O[j] = true) ∧ (∀ (_ : 0 < k) (h2 : k - 1 < O.length), bytesBefore x O[k - 1] = false) ∧ Fr No w7 wr
set_option maxRecDepth 100000 in
set_option maxHeartbeats 8000000 in
theorem reftouches_any (F : Nat → Prop) (o : Od) (v : Value) (w : World) (hok : o.ok) (hgok : ∀ g ∈ o.legs, g.ok) (hv : LgS w F v o.legs) (hl : o.legs.length ≤ 100000) :
    Calls Tryz.prog 72 #[o.val v] w (RetOwn w 9 1 none (touchL o).length (ts (touchL o))) := by
  have hNok : ∀ s ∈ allN o o.legs.length, (⟨s.toArray⟩ : ByteArray).size ≤ maxLen := fun s hs => by
    unfold allN at hs
    rw [List.mem_append] at hs
    rcases hs with hs | hs
    · simp only [List.mem_cons, List.not_mem_nil, or_false] at hs
      rcases hs with rfl | rfl
      · exact hok.2.2.2.1
      · exact hok.2.2.2.2.1
    · obtain ⟨g, hg, rfl⟩ := List.mem_map.1 hs
      exact (hgok g (List.mem_of_mem_take hg)).1
  obtain ⟨ocl, osq, okd, oac, ope, osm, olg, opr, ohd, ont⟩ := o
  unfold Od.val Od.cs
  obtain ⟨vA, vc, cells, rfl, hr, hE, hlc, hcm⟩ := hv
  have hbk := Blk.new w 47 #[.int .i64 ocl, .int .i64 osq, .int .i64 okd, .string oac, .string ope, .int .i64 osm, .slice vA olg.length vc, .int .i64 opr, .int .i64 ohd, .string ont]
  have hf0 : Fr No w (w.alloc (.cells #[.int .i64 ocl, .int .i64 osq, .int .i64 okd, .string oac, .string ope, .int .i64 osm, .slice vA olg.length vc, .int .i64 opr, .int .i64 ohd, .string ont] 47)) := (Fr.refl _ _).alloc _
  simp only at hl hlc hE hr hNok ⊢
  have hx3 := hbk.cell 3
  have hx4 := hbk.cell 4
  simp only [List.getElem?_toArray, List.getElem?_cons_zero, List.getElem?_cons_succ] at hx3 hx4
  go_enter Tryz.func72, Tryz.ntmps72
  go_upto_region 1 with (fail)
  generalize hw1 : (w.alloc (.cells #[.int .i64 ocl, .int .i64 osq, .int .i64 okd, .string oac, .string ope, .int .i64 osm, .slice vA olg.length vc, .int .i64 opr, .int .i64 ohd, .string ont] 47)) = w1 at *
  clear hw1
  have HF := Lib.hid hf0
  have HR := Lib.hid (hr.fr (by omega) hf0 fun _ _ _ h => h)
  have HE := Lib.hid hE
  have HL := Lib.hid hl
  go_upto_region 2 with (fail)
  have hf1 : Fr No w1 (w1.alloc (.cells #[.string oac, .string ope] 9)) := (Fr.refl _ _).alloc _
  have ho := own_two w1 9 (.string oac) (.string ope)
  have hb2 := hbk.alloc (.cells #[.string oac, .string ope] 9)
  have hnew : Newer w1.heap.size none (Value.slice (some ⟨w1.heap.size, 0, none⟩) 2 2).ownBlock := .inr ⟨_, rfl, Nat.le_refl _⟩
  generalize hw2 : w1.alloc (.cells #[.string oac, .string ope] 9) = w2 at *
  clear hw2 hx3 hx4
  have HBK := Lib.hid hbk
  have H0 : Hid (TcRel w1 ⟨ocl, osq, okd, oac, ope, osm, olg, opr, ohd, ont⟩ (.slice (some ⟨w1.heap.size, 0, none⟩) 2 2) (.int .i64 0) w2) :=
    ⟨0, some ⟨w1.heap.size, 0, none⟩, 2, Nat.zero_le _, rfl, rfl, by rw [show allN ⟨ocl, osq, okd, oac, ope, osm, olg, opr, ohd, ont⟩ 0 = [oac.data.toList, ope.data.toList] from rfl]; exact ho, hf1, hnew⟩
  have HNOK := Lib.hid hNok
  clear hr hE hf0 hf1 hl ho hnew hb2 hbk hNok hok hgok
  go_wp2_with fail
  go_loopw [3, 4] (fun v iv wr => TcRel w1 ⟨ocl, osq, okd, oac, ope, osm, olg, opr, ohd, ont⟩ v iv wr) (fun _ iv _ => olg.length - (intOf iv).toNat)
  case atStart => exact H0.out
  case round =>
    obtain ⟨k, A, c, hk, rfl, rfl, hown, hfr, hnew⟩ := hrel
    simp only at hk
    have x6 := (HBK.out.fr hfr (fun h => h)).cell 6
    simp only [List.getElem?_toArray, List.getElem?_cons_zero, List.getElem?_cons_succ] at x6
    by_cases hlt : k < olg.length
    · obtain ⟨ad, rfl, _, hok, q0, q1⟩ := lg_at (HR.out.fr (by omega) hfr fun _ _ _ h => h) HE.out k hlt hlt
      have HAN : Hid (allN ⟨ocl, osq, okd, oac, ope, osm, olg, opr, ohd, ont⟩ (k + 1) = allN ⟨ocl, osq, okd, oac, ope, osm, olg, opr, ohd, ont⟩ k ++ [olg[k].nm]) := allN_next _ k hlt
      generalize olg[k] = g at *
      obtain ⟨nm, sm⟩ := g
      simp only at q0 q1
      have HOWN := Lib.hid hown
      have HFR := Lib.hid hfr
      have HNEW := Lib.hid hnew
      have HLT : Hid (k + 1 ≤ olg.length) := hlt
      have hk62 : (k : Int) < 9223372036854775807 := by have := HL.out; omega
      have HBD : Hid (2 + k + 1 ≤ maxLen ∧ (2 + k + 1) * 16 ≤ 140737488355328) := ⟨by have := HL.out; unfold maxLen; omega, by have := HL.out; omega⟩
      clear hown hfr hnew hok
      go_wp2_with (at_builtin; refine wpList_app _ rfl (.tmp 20) (.tmp 27) 82 82 rfl elS (HOWN.out.alloc _) rfl (Src.of_new wr.heap.size (heap_alloc_new wr _) Tryz.underlying82 rfl (by simp [Value.oneCell'])) rfl HBD.out.1 HBD.out.2 ?_; intro v1 w6 hown1 hfr1 hnew1)
      go_roundw
      case rel =>
        obtain ⟨A1, c1, rfl, _, _⟩ := hown1.form
        have hfo := (Fr.refl No wr).alloc (.cells #[.string nm] 9)
        have := HLT.out
        refine ⟨k + 1, A1, c1, by simp only; omega, by simp only [Nat.add_assoc], by go_num, ?_, ?_, ?_⟩
        · rw [HAN.out, ts_append, ← Nat.add_assoc]
          exact hown1
        · exact fr_no (HFR.out.trans hfo) HNEW.out hfr1
        · rw [← Nat.add_assoc]
          refine HNEW.out.trans (Newer.of hnew1) ?_
          have := HFR.out.size
          simp
          omega
      case measure => have := HLT.out; simp [intOf]; omega
    · obtain rfl : k = olg.length := by omega
      have hlen : (allN ⟨ocl, osq, okd, oac, ope, osm, olg, opr, ohd, ont⟩ olg.length).length = 2 + olg.length := allN_length _ _ (Nat.le_refl _)
      have HDN : Hid (∀ O, InO (allN ⟨ocl, osq, okd, oac, ope, osm, olg, opr, ohd, ont⟩ olg.length) (allN ⟨ocl, osq, okd, oac, ope, osm, olg, opr, ohd, ont⟩ olg.length).length O → O = touchL ⟨ocl, osq, okd, oac, ope, osm, olg, opr, ohd, ont⟩) := fun O hO => hO.done (Nat.le_refl _)
      generalize touchL ⟨ocl, osq, okd, oac, ope, osm, olg, opr, ohd, ont⟩ = T at *
      generalize allN ⟨ocl, osq, okd, oac, ope, osm, olg, opr, ohd, ont⟩ olg.length = N at *
      rw [← hlen] at hown
      have hNl : N.length ≤ 100002 := by have := HL.out; omega
      have HOWN := Lib.hid hown
      have HFW := Lib.hid (HF.out.trans hfr)
      rw [← hlen]
      clear hown hfr hnew hlen hk hlt HBK H0 HE HR HF HL
      generalize wr = w6 at *
      go_wp2_with fail
      go_loopw [5, 6] (fun ov iv wr => T2Rel w6 N ov iv wr) (fun _ iv _ => N.length - (intOf iv).toNat)
      case atStart => exact ⟨0, none, 0, [], Nat.zero_le _, rfl, InO.start N, rfl, Nat.le_refl _, by decide, Own.nil _ _ _, Fr.refl _ _, .inl rfl⟩
      case round =>
        obtain ⟨i, An, cn, O, hi, rfl, hin, rfl, hnc, hncm, hown, hfr, hnew⟩ := hrel
        have hk62 : (i : Int) < 9223372036854775807 := by omega
        by_cases hlt : i < N.length
        · obtain ⟨ad, hl1, rfl, _, q0⟩ := ts_at (HOWN.out.fr hfr (fun _ _ h => h)).rd i hlt
          have HCL : Hid (∀ W, Fr No wr W → Fr No wr W ∧ W.cell? (ad.add i) = some (.string ⟨(N[i]).toArray⟩)) := fun W hW => ⟨hW, hW.cell_some q0 (fun h => h)⟩
          have HLT : Hid (i + 1 ≤ N.length) := hlt
          have hOl := hin.length
          have HEMP : Hid (N[i] = [] → InO N (i + 1) O) := fun h => hin.empty hlt h
          have HTHERE : Hid (N[i] ∈ O → InO N (i + 1) O) := fun h => hin.there hlt h
          have HPUT : Hid (∀ k, N[i] ≠ [] → k ≤ O.length → (∀ j (h : j < O.length), k ≤ j → bytesBefore N[i] O[j] = true) → (∀ (_ : 0 < k) (h2 : k - 1 < O.length), bytesBefore N[i] O[k - 1] = false ∧ O[k - 1] ≠ N[i]) → InO N (i + 1) (O.take k ++ N[i] :: O.drop k)) := fun k h1 h2 h3 h4 => hin.put hlt h1 h2 h3 h4
          have HSX : Hid ((⟨(N[i]).toArray⟩ : ByteArray).size ≤ maxLen) := HNOK.out _ (List.getElem_mem hlt)
          have HSO : Hid (∀ s ∈ O, (⟨s.toArray⟩ : ByteArray).size ≤ maxLen) := fun s hs => HNOK.out s (List.mem_of_mem_take ((hin.2 s).1 hs).1)
          generalize N[i] = lo at *
          have HOW := Lib.hid hown
          have HFR := Lib.hid hfr
          have HNEW := Lib.hid hnew
          have HCN := Lib.hid hncm
          have HNC := Lib.hid hnc
          have HOL := Lib.hid hOl
          obtain ⟨w3, rfl⟩ : ∃ w3 : World, w3 = wr := ⟨_, rfl⟩
          clear hown hfr hnew hin hncm
          go_upto_block 4 with (fail)
          clear q0
          go_cut [7] (fun a7 wx => T3End w3 O lo a7 wx)
          case first =>
            go_wp2_with fail
            go_loopw [7] (fun jv wr => T3Rel w3 O lo jv wr) (fun jv _ => (intOf jv).toNat)
            case atStart => exact ⟨O.length, Nat.le_refl _, rfl, fun i h h' => absurd h' (by omega), Fr.refl _ _⟩
            case round =>
              obtain ⟨j, hj, rfl, hall, hfr⟩ := hrel
              have HALL := Lib.hid hall
              have HFR3 := Lib.hid hfr
              obtain ⟨_, q0⟩ := HCL.out _ hfr
              clear hall hfr
              by_cases hj0 : 0 < j
              · obtain ⟨j1, hj1⟩ : ∃ j1, j = j1 + 1 := ⟨j - 1, by omega⟩
                have hjl : j1 < O.length := by omega
                obtain ⟨sd, hl2, rfl, _, r0⟩ := ts_at (HOW.out.rd.fr (by omega) HFR3.out (fun _ _ _ h => h)) j1 hjl
                have hjj : (j : Int) - 1 = (j1 : Int) := by omega
                have hgt : (0 : Int) < (j : Int) := by omega
                have hd0 : decide ((0 : Int) < (j : Int)) = true := decide_eq_true hgt
                have hwj : IntKind.i64.wrap ((j : Int) - 1) = (j1 : Int) := by rw [hjj]; exact IntWalk.i64_in _ (by omega)
                have hsz : (⟨(O[j1]).toArray⟩ : ByteArray).size ≤ maxLen := HSO.out _ (List.getElem_mem hjl)
                have HAH : Hid (∀ n, Calls Tryz.prog 106 #[.string ⟨lo.toArray⟩, .string ⟨(O[j1]).toArray⟩] (wr.drewN n) fun e w' => e = .returned (.bool (bytesBefore lo O[j1])) ∧ ∃ m, w' = (wr.drewN n).drewN m) := fun n => refahead_any ⟨lo.toArray⟩ ⟨(O[j1]).toArray⟩ (wr.drewN n) HSX.out hsz
                have HNXT : Hid (bytesBefore lo O[j1] = true → ∀ i (h : i < O.length), j1 ≤ i → bytesBefore lo O[i] = true) := fun hbf i h hji => by
                  rcases Nat.eq_or_lt_of_le hji with e | e
                  · subst e; exact hbf
                  · exact HALL.out i h (by omega)
                have HNXF : Hid (bytesBefore lo O[j1] = false → ∀ (_ : 0 < j) (h2 : j - 1 < O.length), bytesBefore lo O[j - 1] = false) := fun hbf _ h2 => by
                  subst hj1
                  exact hbf
                generalize O[j1] = lj at *
                cases hbf : bytesBefore lo lj with
                | true =>
                  have HNX := Lib.hid (HNXT.out hbf)
                  rw [hbf] at HAH
                  have HJ1 := Lib.hid hj1
                  clear hbf hsz hj1
                  go_wp2_with fail
                  go_quiet ((go_at_call 106; exact Calls.quiet_of (HAH.out _)))
                  clear hwj
                  go_wp2
                  go_roundw
                  case rel => exact ⟨j1, by omega, by first | rfl | go_num, HNX.out, HFR3.out.drewN _⟩
                  case measure => simp [intOf]; omega
                | false =>
                  have HNX := Lib.hid (HNXF.out hbf)
                  rw [hbf] at HAH
                  clear hbf hsz hj1
                  go_wp2_with fail
                  go_quiet ((go_at_call 106; exact Calls.quiet_of (HAH.out _)))
                  go_wp2
                  go_meet
                  exact ⟨j, hj, rfl, HALL.out, HNX.out, HFR3.out.drewN _⟩
              · have hgt : ¬ (0 : Int) < (j : Int) := by omega
                have hd0 : decide ((0 : Int) < (j : Int)) = false := decide_eq_false hgt
                have hd1 : decide (0 < j) = false := decide_eq_false hj0
                have HNX : Hid (∀ (_ : 0 < j) (h2 : j - 1 < O.length), bytesBefore lo O[j - 1] = false) := fun h _ => absurd h hj0
                clear hj0
                go_wp2_with fail
                go_quiet (fail)
                go_wp2
                go_meet
                exact ⟨j, hj, rfl, HALL.out, HNX.out, HFR3.out.drewN _⟩
          case rest =>
            obtain ⟨j, hj, rfl, hall, hno, hfr⟩ := hcut
            obtain ⟨_, q0⟩ := HCL.out _ hfr
            obtain ⟨w4, rfl⟩ : ∃ w4 : World, w4 = wc := ⟨_, rfl⟩
            have HF4 := Lib.hid hfr
            have HO4 := Lib.hid (HOW.out.fr hfr (fun _ _ h => h))
            have HCL4 : Hid (∀ W, Fr No w4 W → W.cell? (ad.add i) = some (.string ⟨lo.toArray⟩)) := fun W hW => (HCL.out W (hfr.trans hW)).2
            clear hfr
            by_cases hemp : lo = []
            · have HIN := Lib.hid (HEMP.out hemp)
              subst hemp
              clear hall hno
              go_wp2_with fail
              go_quiet (fail)
              go_wp2
              go_roundw
              case rel => exact ⟨i + 1, An, cn, O, HLT.out, by go_num, HIN.out, rfl, HNC.out, HCN.out, HO4.out.drewN _, (HFR.out.trans HF4.out).drewN _, HNEW.out⟩
              case measure => have := HLT.out; simp [intOf]; omega
            have hne1 : (lo == []) = false := beq_eq_false_iff_ne.2 hemp
            have hne2 : ((⟨lo.toArray⟩ : ByteArray).toList == []) = false := by rw [ByteArray.toList_eq]; exact hne1
            by_cases hthere : 0 < j ∧ ∃ h2 : j - 1 < O.length, O[j - 1] = lo
            · obtain ⟨hj0, h2, hnm⟩ := hthere
              have HIN := Lib.hid (HTHERE.out (by rw [← hnm]; exact List.getElem_mem h2))
              obtain ⟨sd, hl2, rfl, _, r0⟩ := ts_at (HO4.out.rd) (j - 1) h2
              have hjz : ((j : Int) == 0) = false := beq_eq_false_iff_ne.2 (by omega)
              have hjz' : (j == 0) = false := beq_eq_false_iff_ne.2 (by omega)
              have hjj : (j : Int) - 1 = ((j - 1 : Nat) : Int) := by omega
              have hwj : IntKind.i64.wrap ((j : Int) - 1) = ((j - 1 : Nat) : Int) := by rw [hjj]; exact IntWalk.i64_in _ (by omega)
              have hj1 : ((j : Int) - 1).toNat = j - 1 := by omega
              have hj2 : (1 : Int) ≤ (j : Int) := by omega
              generalize O[j - 1] = lj at *
              subst hnm
              clear hall hno hemp
              generalize j - 1 = j1 at *
              go_wp2_with fail
              go_quiet (fail)
              clear hwj hjj hj1
              go_wp2
              go_roundw
              case rel => exact ⟨i + 1, some sd, cn, O, HLT.out, by go_num, HIN.out, rfl, HNC.out, HCN.out, HO4.out.drewN _, (HFR.out.trans HF4.out).drewN _, HNEW.out⟩
              case measure => have := HLT.out; simp [intOf]; omega
            · have hne : ∀ (h0 : 0 < j) (h2 : j - 1 < O.length), O[j - 1] ≠ lo := fun h0 h2 e => hthere ⟨h0, h2, e⟩
              have HIN := Lib.hid (HPUT.out j hemp hj hall (fun h0 h2 => ⟨hno h0 h2, hne h0 h2⟩))
              clear hemp
              go_upto_region 13 with (fail)
              go_cut [73] (fun a73 wx => a73 = .bool true ∧ Fr No w4 wx)
              case first =>
                by_cases hj0 : 0 < j
                · have h2 : j - 1 < O.length := by omega
                  obtain ⟨sd, hl2, rfl, _, r0⟩ := ts_at (HO4.out.rd) (j - 1) h2
                  have hjz : ((j : Int) == 0) = false := beq_eq_false_iff_ne.2 (by omega)
                  have hjz' : (j == 0) = false := beq_eq_false_iff_ne.2 (by omega)
                  have hjj : (j : Int) - 1 = ((j - 1 : Nat) : Int) := by omega
                  have hwj : IntKind.i64.wrap ((j : Int) - 1) = ((j - 1 : Nat) : Int) := by rw [hjj]; exact IntWalk.i64_in _ (by omega)
                  have hj1 : ((j : Int) - 1).toNat = j - 1 := by omega
                  have hj2 : (1 : Int) ≤ (j : Int) := by omega
                  have hnn := hne hj0 h2
                  generalize O[j - 1] = ln at *
                  generalize j - 1 = j1 at *
                  have hz1 : (ln != lo) = true := by rw [bne_iff_ne]; exact hnn
                  have hz0 : (ln == lo) = false := beq_eq_false_iff_ne.2 hnn
                  have hz2 : ((⟨ln.toArray⟩ : ByteArray).toList == (⟨lo.toArray⟩ : ByteArray).toList) = false := by rw [ByteArray.toList_eq, ByteArray.toList_eq]; exact hz0
                  clear hall hno hne hthere hnn
                  go_quiet (fail)
                  go_wp2
                  go_meet
                  exact ⟨rfl, (Fr.refl No w4).drewN _⟩
                · have hjz : ((j : Int) == 0) = true := by simp; omega
                  have hjz' : (j == 0) = true := by simp; omega
                  clear hall hno hne hthere hj0
                  go_quiet (fail)
                  go_wp2
                  go_meet
                  exact ⟨rfl, (Fr.refl No w4).drewN _⟩
              case rest =>
                obtain ⟨rfl, hf5⟩ := hcut
                obtain ⟨w5, rfl⟩ : ∃ w5 : World, w5 = wc := ⟨_, rfl⟩
                have HO5 := Lib.hid (HO4.out.fr hf5 (fun _ _ h => h))
                have HF5 := Lib.hid hf5
                have HCL5 : Hid (∀ W, Fr No w5 W → W.cell? (ad.add i) = some (.string ⟨lo.toArray⟩)) := fun W hW => HCL4.out W (hf5.trans hW)
                have hrd := HO5.out.rd
                have hrdT : Rd w5 (fun k' => (Value.slice An O.length cn).ownBlock = some k') 1 An j (ts (O.take j)) := by
                  have := hrd.take hj
                  rw [Nat.mul_one] at this
                  unfold ts at this ⊢
                  rwa [List.map_take]
                obtain ⟨X, hX⟩ : ∃ X, X = if cn = j then An else An.map (·.add j) := ⟨_, rfl⟩
                have hrdD : Rd w5 (fun k' => (Value.slice An O.length cn).ownBlock = some k') 1 X (O.length - j) (ts (O.drop j)) := by
                  have := hrd.cut (cap := cn) hj hnc
                  rw [Nat.mul_one] at this
                  rw [hX]
                  unfold ts at this ⊢
                  rwa [List.map_drop]
                have HST : Hid (∀ W c', Fr No w5 W → Src Tryz.prog W 1 82 (.slice An j c') j (ts (O.take j))) := fun W c' hW => Src.of_rd (hrdT.fr (by omega) hW fun _ _ _ h => h) (ts_one _) Tryz.underlying82
                have HSD : Hid (∀ W c', Fr No w5 W → Src Tryz.prog W 1 82 (.slice X (O.length - j) c') (O.length - j) (ts (O.drop j))) := fun W c' hW => Src.of_rd (hrdD.fr (by omega) hW fun _ _ _ h => h) (ts_one _) Tryz.underlying82
                have hjc : j ≤ cn := by omega
                have HMX : Hid (0 + j ≤ maxLen ∧ (0 + j) * 16 ≤ 140737488355328 ∧ j + 1 ≤ maxLen ∧ (j + 1) * 16 ≤ 140737488355328 ∧ j + 1 + (O.length - j) ≤ maxLen ∧ (j + 1 + (O.length - j)) * 16 ≤ 140737488355328) := by
                  have := HOL.out
                  refine ⟨?_, ?_, ?_, ?_, ?_, ?_⟩ <;> (try simp only [maxLen]) <;> omega
                have HLN : Hid (j + 1 + (O.length - j) = (O.take j ++ lo :: O.drop j).length ∧ ts (O.take j) ++ [.string ⟨lo.toArray⟩] ++ ts (O.drop j) = ts (O.take j ++ lo :: O.drop j)) := by
                  rw [ts_append, List.length_append, List.length_cons, List.length_take, List.length_drop]
                  refine ⟨by omega, ?_⟩
                  rw [List.append_assoc]
                  rfl
                generalize O.take j ++ lo :: O.drop j = Q at HIN HLN
                have HFW5 : Hid (Fr No w6 w5) := HFR.out.trans (HF4.out.trans hf5)
                have q0 := HCL5.out _ (Fr.refl No w5)
                have hncm := HCN.out
                unfold maxLen at hncm
                clear hall hno hne hthere hrd hrdT hrdD hf5
                have hdd : Fr No w5 w5.drew := (Fr.refl _ _).drew
                have HKP : Hid (∀ W, Fr No w5 W → (Fr No w5 W ∧ W.cell? (ad.add i) = some (.string ⟨lo.toArray⟩))) := fun W hW => ⟨hW, HCL5.out W hW⟩
                go_upto_region 14 with (fail)
                by_cases hck : cn = j
                focus
                  subst hck
                  rw [if_pos rfl] at hX
                  have hz0 : O.length - cn = 0 := by omega
                  rw [hz0] at HSD HMX HLN
                  clear hz0
                rotate_left
                focus rw [if_neg hck] at hX
                all_goals
                  subst hX
                  go_region_held_law (fun W => Fr No w5 W ∧ W.cell? (ad.add i) = some (.string ⟨lo.toArray⟩))
                    (exact HKP.out _ (by first | assumption | exact Fr.alloc (by assumption) _ | exact ((Fr.refl _ _).alloc _).drew)) (first
                    | (refine step_app _ rfl (.const (.slice none 0 0)) (.tmp 76) 82 82 rfl elS (Own.nil _ _ _) rfl (HST.out _ _ (by first | assumption | exact Fr.alloc (by assumption) _ | exact ((Fr.refl _ _).alloc _).drew)) rfl HMX.out.1 HMX.out.2.1 ?_; intro v6 w7 ho6 hf6 hn6; rw [Nat.zero_add, List.nil_append] at ho6
                       have hq6 : Fr No w5 w7 := Fr.trans (by first | assumption | exact Fr.alloc (by assumption) _ | exact ((Fr.refl _ _).alloc _).drew) (fr_at_none hf6)
                       have hB6 := hf6.block w5.heap.size
                       have hw6 : Newer w5.heap.size none v6.ownBlock := Newer.trans (.inl rfl) (Newer.of hn6) (by first | exact Nat.le_refl _ | (show w5.heap.size ≤ (w5.alloc _).heap.size; rw [World.size_alloc]; exact Nat.le_succ _)))
                    | (refine step_app _ rfl (.tmp 77) (.tmp 82) 82 82 rfl elS ho6 rfl (Src.of_new w5.heap.size (by rw [hB6 (by show _ < (w5.alloc _).heap.size; rw [World.size_alloc]; exact Nat.lt_succ_self _) (fun h => by cases h)]; exact heap_alloc_new w5 _) Tryz.underlying82 rfl (by simp [Value.oneCell'])) rfl HMX.out.2.2.1 HMX.out.2.2.2.1 ?_; intro v7 w8 ho7 hf7 hn7
                       have hq7 : Fr No w5 w8 := fr_no hq6 hw6 hf7
                       have hw7 : Newer w5.heap.size none v7.ownBlock := Newer.trans hw6 (Newer.of hn7) hq6.size)
                    | (refine step_app _ rfl (.tmp 77) (.tmp 82) 82 82 rfl elS (ho6.alloc _) rfl (Src.of_new w7.heap.size (heap_alloc_new _ _) Tryz.underlying82 rfl (by simp [Value.oneCell'])) rfl HMX.out.2.2.1 HMX.out.2.2.2.1 ?_; intro v7 w8 ho7 hf7 hn7
                       have hq7 : Fr No w5 w8 := fr_no (hq6.alloc _) hw6 hf7
                       have hw7 : Newer w5.heap.size none v7.ownBlock := Newer.trans hw6 (Newer.of hn7) (Nat.le_trans hq6.size (by simp)))
                    | (refine step_app _ rfl (.tmp 83) (.tmp 86) 82 82 rfl elS ho7 rfl (HSD.out _ _ hq7) rfl HMX.out.2.2.2.2.1 HMX.out.2.2.2.2.2 ?_; intro v8 w9 ho8 hf8 hn8
                       have hq8 : Fr No w5 w9 := fr_no hq7 hw7 hf8
                       have HN8 : Hid (Own w9 9 1 v8 Q.length (ts Q) ∧ Fr No w6 w9 ∧ Newer w6.heap.size none v8.ownBlock) := ⟨by rw [← HLN.out.1, ← HLN.out.2]; exact ho8, HFW5.out.trans (fr_no hq7 hw7 hf8), Newer.trans (.inl rfl) (hw7.trans (Newer.of hn8) hq7.size) HFW5.out.size⟩))
                  all_goals
                    have HN9 := Lib.hid HN8.out
                    clear ho6 ho7 ho8 hf6 hf7 hf8 hn6 hn7 hn8 hq6 hq7 hw6 hw7 hB6 HN8 q0 hq8
                    go_wp2
                    go_roundw
                    case rel =>
                      obtain ⟨g1, g2, g3⟩ := HN9.out
                      obtain ⟨A8, c8, rfl, h81, h82⟩ := g1.form
                      exact ⟨i + 1, A8, c8, _, HLT.out, by go_num, HIN.out, rfl, h81, h82, g1, g2, g3⟩
                    case measure => have := HLT.out; simp [intOf]; omega
        · obtain rfl : i = N.length := by omega
          obtain rfl := HDN.out O hin
          have HO := Lib.hid hown
          have HR2 := Lib.hid (HFW.out.trans hfr)
          have HNE := Lib.hid hnew
          have HSZ := Lib.hid HFW.out.size
          clear hown hfr hnew
          go_wp2
          go_ret
          exact ⟨_, rfl, HO.out, HR2.out.mono (fun _ _ h => (h : False).elim), Newer.trans (.inl rfl) HNE.out HSZ.out⟩
end Go.Proofs.YtnphncemghfkbaaGreat
