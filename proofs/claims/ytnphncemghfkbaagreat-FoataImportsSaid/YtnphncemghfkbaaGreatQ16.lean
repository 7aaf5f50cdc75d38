/- Normal rows, what is exported and imported: plain mathematics. slices.EqualFunc of orders, of rows of orders; foata.Normal. '[]byte(s)' of a string: a new row that holds its bytes. Of no program. foata.readStep. foata.readStep: its walk. -/
import Derived.Test.YtnphncemghfkbaaGreatQ13
import Derived.Test.YtnphncemghfkbaaGreatQ15
import Derived.Test.YtnphncemghfkbaaGreatQ10
import Derived.Test.YtnphncemghfkbaaGreatQ14
import Derived.Test.YtnphncemghfkbaaGreatQ06
import Derived.Test.YtnphncemghfkbaaGreatQ01
import Derived.Lib.ConvBytes
namespace Go.Proofs.YtnphncemghfkbaaGreat
open Go.RowKit Go.My
set_option linter.unusedSimpArgs false
set_option linter.unusedVariables false

theorem good_read {t : List UInt8} (h : readB t = true) (hl : t.length ≤ 1000) : Good (readO t) := by
  obtain ⟨h1, h2, _⟩ := read_bytes h
  obtain ⟨k1, k2⟩ := read_ok t
  exact ⟨h1, k1, fun g hg => (k2 g hg).2, by rw [h2]; exact hl⟩
theorem rords_good : ∀ (k : Nat) (l : List UInt8) (L : List Od) (rest : List UInt8), rords k l = some (L, rest) → ∀ o ∈ L, Good o
  | 0, l, L, rest, h => by
    simp only [rords, Option.some.injEq, Prod.mk.injEq] at h
    obtain ⟨rfl, rfl⟩ := h
    exact fun o ho => absurd ho List.not_mem_nil
  | k + 1, l, L, rest, h => by
    rw [rords] at h
    split at h
    · rename_i hc
      rw [Option.map_eq_some_iff] at h
      obtain ⟨⟨L', r'⟩, h1, h2⟩ := h
      simp only [Prod.mk.injEq] at h2
      obtain ⟨rfl, rfl⟩ := h2
      intro o ho
      rcases List.mem_cons.1 ho with e | ho
      · rw [e]
        refine good_read hc.2 ?_
        have := rtext_most 1000 (by omega) l 0
        omega
      · exact rords_good k _ _ _ h1 o ho
    · cases h
theorem rstep_good {most : Int} {l : List UInt8} {s : List Od} {rest : List UInt8} (h : rstep most l = some (s, rest)) : ∀ o ∈ s, Good o := by
  unfold rstep at h
  split at h
  · exact rords_good _ _ _ _ h
  · cases h
theorem rrows_good : ∀ (k : Nat) (left : Int) (l : List UInt8) (S : List (List Od)) (rest : List UInt8), rrows k left l = some (S, rest) → ∀ s ∈ S, ∀ o ∈ s, Good o
  | 0, left, l, S, rest, h => by
    simp only [rrows, Option.some.injEq, Prod.mk.injEq] at h
    obtain ⟨rfl, rfl⟩ := h
    exact fun o ho => absurd ho List.not_mem_nil
  | k + 1, left, l, S, rest, h => by
    rw [rrows, Option.bind_eq_some_iff] at h
    obtain ⟨⟨s, r⟩, hs, h⟩ := h
    rw [Option.map_eq_some_iff] at h
    obtain ⟨⟨S', r'⟩, h1, h2⟩ := h
    simp only [Prod.mk.injEq] at h2
    obtain ⟨rfl, rfl⟩ := h2
    intro x hx
    rcases List.mem_cons.1 hx with rfl | hx
    · exact rstep_good hs
    · exact rrows_good k _ _ _ _ h1 x hx
theorem rsteps_good {l : List UInt8} {S : List (List Od)} (h : rsteps l = some S) : ∀ s ∈ S, ∀ o ∈ s, Good o := by
  unfold rsteps at h
  split at h
  · rw [Option.bind_eq_some_iff] at h
    obtain ⟨⟨S', r⟩, h1, h2⟩ := h
    simp only at h2
    split at h2
    · obtain rfl : S' = S := by simpa using h2
      exact rrows_good _ _ _ _ _ h1
    · cases h2
  · cases h

/-- rows that are the steps of what they lay out -/
def NormalO (S : List (List Od)) : Prop := Rt Od.id S.flatten ∧ StepsO S.flatten S
theorem normal_of {l : List Od} (hl : Rt Od.id l) {S : List (List Od)} (h : StepsO l S) : NormalO S :=
  ⟨(h.lay clashB_comm ltI_irr hl).2.2.1, h.again clashB_comm ltI_irr hl⟩
theorem steps_uniq {l : List Od} {S T : List (List Od)} (h : StepsO l S) (k : StepsO l T) : S = T := StepsR.uniq ltI_irr ltI_trans h k
theorem steps_rows {l : List Od} (hl : Rt Od.id l) {S : List (List Od)} (h : StepsO l S) (g : ∀ o ∈ l, Good o) : (∀ s ∈ S, s ≠ [] ∧ ∀ o ∈ s, Good o) ∧ S.flatten.length = l.length := by
  refine ⟨fun s hs => ?_, (h.lay clashB_comm ltI_irr hl).1.symm⟩
  obtain ⟨i, hi, rfl⟩ := List.mem_iff_getElem.1 hs
  exact ⟨h.2.1 i hi, fun o ho => g o (lev_mem (((h.2.2 i hi).2 o).1 ho))⟩
/-- what is exported is imported -/
theorem import_export {l : List Od} (hl : Rt Od.id l) (hn : l.length ≤ 200) {S : List (List Od)} (h : StepsO l S) (g : ∀ o ∈ l, Good o) : rsteps (stepsB S) = some S ∧ NormalO S := by
  obtain ⟨h1, h2⟩ := steps_rows hl h g
  exact ⟨rsteps_enc S h1 (by omega), normal_of hl h⟩
/-- what is imported is exported as just these bytes -/
theorem export_import {b : List UInt8} {S T : List (List Od)} (h : rsteps b = some S) (hS : NormalO S) (hT : StepsO S.flatten T) : T = S ∧ stepsB T = b ∧ S.flatten.length ≤ 200 := by
  obtain ⟨-, h2, h3⟩ := rsteps_only h
  obtain rfl := steps_uniq hT hS.2
  exact ⟨rfl, h3.symm, h2⟩

/-- the document's reading: no row of more than 200 -/
def qrows : Nat → List UInt8 → Option (List (List Od) × List UInt8)
  | 0, l => some ([], l)
  | k + 1, l => (rstep 200 l).bind fun s => (qrows k s.2).map fun q => (s.1 :: q.1, q.2)
def qsteps (l : List UInt8) : Option (List (List Od)) :=
  if (rrange 0 200 l 0).2.1 = 0 then (qrows (rrange 0 200 l 0).1.toNat (rrange 0 200 l 0).2.2).bind fun q => if q.2 = [] then some q.1 else none else none
theorem rstep_up {a b : Int} (hab : a ≤ b) (hb : b ≤ 200) {l : List UInt8} {r : List Od × List UInt8} (h : rstep a l = some r) : rstep b l = some r := by
  obtain ⟨s, rest⟩ := r
  obtain ⟨h1, h2, -, h4⟩ := rstep_only _ _ _ _ h
  rw [h4]
  exact rstep_enc b s rest (rstep_good h) h1 (by omega) (by omega)
theorem rstep_down {a b : Int} (hb : b ≤ 200) {l : List UInt8} {r : List Od × List UInt8} (h : rstep b l = some r) (hl : (r.1.length : Int) ≤ a) : rstep a l = some r := by
  obtain ⟨s, rest⟩ := r
  obtain ⟨h1, h2, -, h4⟩ := rstep_only _ _ _ _ h
  rw [h4]
  exact rstep_enc a s rest (rstep_good h) h1 hl (by omega)
theorem qrows_of : ∀ (k : Nat) (left : Int) (l : List UInt8) (q : List (List Od) × List UInt8), left ≤ 200 → rrows k left l = some q → qrows k l = some q
  | 0, left, l, q, _, h => h
  | k + 1, left, l, q, hl, h => by
    rw [rrows, Option.bind_eq_some_iff] at h
    obtain ⟨s, hs, h⟩ := h
    rw [Option.map_eq_some_iff] at h
    obtain ⟨r, h1, h2⟩ := h
    rw [qrows, rstep_up hl (Int.le_refl _) hs, Option.bind_some, qrows_of k _ _ _ (by omega) h1, Option.map_some, h2]
theorem rrows_of : ∀ (k : Nat) (left : Int) (l : List UInt8) (q : List (List Od) × List UInt8), (q.1.flatten.length : Int) ≤ left → qrows k l = some q → rrows k left l = some q
  | 0, left, l, q, _, h => h
  | k + 1, left, l, q, hl, h => by
    rw [qrows, Option.bind_eq_some_iff] at h
    obtain ⟨s, hs, h⟩ := h
    rw [Option.map_eq_some_iff] at h
    obtain ⟨r, h1, h2⟩ := h
    subst h2
    simp only [List.flatten_cons, List.length_append] at hl
    rw [rrows, rstep_down (a := left) (Int.le_refl _) hs (by omega), Option.bind_some, rrows_of k (left - s.1.length) _ r (by omega) h1]
    rfl
theorem qsteps_iff (l : List UInt8) (S : List (List Od)) : rsteps l = some S ↔ qsteps l = some S ∧ S.flatten.length ≤ 200 := by
  constructor
  · intro h
    refine ⟨?_, (rsteps_only h).2.1⟩
    unfold rsteps at h
    unfold qsteps
    split at h
    · rename_i hc
      rw [if_pos hc]
      rw [Option.bind_eq_some_iff] at h ⊢
      obtain ⟨q, h1, h2⟩ := h
      exact ⟨q, qrows_of _ _ _ _ (Int.le_refl _) h1, h2⟩
    · cases h
  · rintro ⟨h, hl⟩
    unfold qsteps at h
    unfold rsteps
    split at h
    · rename_i hc
      rw [if_pos hc]
      rw [Option.bind_eq_some_iff] at h ⊢
      obtain ⟨q, h1, h2⟩ := h
      have hq : q.1 = S := by
        split at h2
        · exact Option.some.inj h2
        · cases h2
      exact ⟨q, rrows_of _ _ _ _ (by rw [hq]; omega) h1, h2⟩
    · cases h
theorem qsteps_good {l : List UInt8} {S : List (List Od)} (h : qsteps l = some S) : (∀ s ∈ S, s ≠ [] ∧ ∀ o ∈ s, Good o) ∧ l = stepsB S := by
  have key : ∀ (k : Nat) (l : List UInt8) (S : List (List Od)) (rest : List UInt8), qrows k l = some (S, rest) → S.length = k ∧ (∀ s ∈ S, s ≠ [] ∧ ∀ o ∈ s, Good o) ∧ l = rowsB S ++ rest := by
    intro k
    induction k with
    | zero =>
      intro l S rest h
      simp only [qrows, Option.some.injEq, Prod.mk.injEq] at h
      obtain ⟨rfl, rfl⟩ := h
      exact ⟨rfl, fun o ho => absurd ho List.not_mem_nil, rfl⟩
    | succ k ih =>
      intro l S rest h
      rw [qrows, Option.bind_eq_some_iff] at h
      obtain ⟨⟨s, r⟩, hs, h⟩ := h
      rw [Option.map_eq_some_iff] at h
      obtain ⟨⟨S', r'⟩, h1, h2⟩ := h
      simp only [Prod.mk.injEq] at h2
      obtain ⟨rfl, rfl⟩ := h2
      obtain ⟨a1, a2, a3, a4⟩ := rstep_only _ _ _ _ hs
      obtain ⟨b1, b2, b4⟩ := ih _ _ _ h1
      refine ⟨by rw [List.length_cons, b1], fun x hx => ?_, ?_⟩
      · rcases List.mem_cons.1 hx with rfl | hx
        · exact ⟨a1, rstep_good hs⟩
        · exact b2 x hx
      · simp only at b4
        unfold rowsB at b4 ⊢
        rw [List.flatMap_cons, List.append_assoc, ← b4]
        exact a4
  unfold qsteps at h
  split at h
  · rename_i hc
    rw [Option.bind_eq_some_iff] at h
    obtain ⟨⟨S', r⟩, h1, h2⟩ := h
    simp only at h2
    split at h2
    · rename_i hr
      obtain rfl : S' = S := by simpa using h2
      subst hr
      obtain ⟨b1, b2, b4⟩ := key _ _ _ _ h1
      obtain ⟨c1, c2, c3⟩ := rrng_only 0 200 l hc
      have hn : ((rrange 0 200 l 0).1.toNat : Int) = (rrange 0 200 l 0).1 := Int.toNat_of_nonneg (by omega)
      refine ⟨b2, ?_⟩
      unfold stepsB
      rw [List.append_nil] at b4
      rw [b1, hn, ← b4]
      exact c1
    · cases h2
  · cases h
/-- the program's Import and the document's tell the same -/
theorem import_same (l : List UInt8) (S : List (List Od)) : (rsteps l = some S ∧ NormalO S) ↔ (qsteps l = some S ∧ S.flatten.length ≤ 200 ∧ Rt Od.id S.flatten ∧ ∀ T, StepsO S.flatten T → stepsB T = l) ∧ ∃ T, StepsO S.flatten T := by
  constructor
  · rintro ⟨h, hS⟩
    obtain ⟨h1, h2⟩ := (qsteps_iff l S).1 h
    exact ⟨⟨h1, h2, hS.1, fun T hT => (export_import h hS hT).2.1⟩, S, hS.2⟩
  · rintro ⟨⟨h1, h2, h3, h4⟩, T, hT⟩
    have hr := (qsteps_iff l S).2 ⟨h1, h2⟩
    refine ⟨hr, h3, ?_⟩
    obtain ⟨g, hl⟩ := qsteps_good h1
    have hT' := steps_rows h3 hT fun o ho => by
      obtain ⟨s, hs, ho⟩ := List.mem_flatten.1 ho
      exact (g s hs).2 o ho
    have := h4 T hT
    have e : T = S := stepsB_inj hT'.1 g (by omega) h2 (by rw [this, hl])
    rw [e] at hT
    exact hT
end Go.Proofs.YtnphncemghfkbaaGreat

namespace Go.Proofs.YtnphncemghfkbaaGreat
open Go.RowKit Go.My Go.Maps Go.WideMaps
set_option linter.unusedSimpArgs false
set_option linter.unusedVariables false
attribute [local go_sem ↓] Go.wp_at_zero Go.wp_at_succ

/-- handed back: one word, which tells that; nothing has changed -/
def Told (w : World) (p : Prop) (e : Ending) (w' : World) : Prop := ∃ r : Bool, e = .returned (.bool r) ∧ (r = true ↔ p) ∧ Fr No w w'
def EqRow (w : World) {α : Type} (a b : List α) (iv : Value) (wr : World) : Prop := ∃ k : Nat, k ≤ a.length ∧ iv = .int .i64 k ∧ a.take k = b.take k ∧ Fr No w wr
theorem take_next {α : Type} {a b : List α} {k : Nat} (ha : k < a.length) (hb : k < b.length) (h : a.take k = b.take k) (e : a[k] = b[k]) : a.take (k + 1) = b.take (k + 1) := by
  rw [List.take_succ_eq_append_getElem ha, List.take_succ_eq_append_getElem hb, h, e]
set_option maxRecDepth 100000 in
set_option maxHeartbeats 1000000 in
theorem eqRow_any (w : World) (F G : Nat → Prop) (A B : Option Addr) (c d : Nat) (a b : List Od) (ha : Ls w F A c a) (hb : Ls w G B d b) :
    Calls Tryz.prog 56 #[.slice A a.length c, .slice B b.length d, .func (.func 57) #[] #[]] w (Told w (a = b)) := by
  by_cases he : a.length = b.length
  · have HA := Lib.hid ha
    have HB := Lib.hid hb
    have hn := ha.n
    have hei : ((a.length : Int) != (b.length : Int)) = false := by rw [he]; exact bne_self_eq_false _
    have HSM : Hid (∀ W k (h1 : k < a.length) (h2 : k < b.length) v u, LgS W (Lt W.heap.size) v a[k].legs → LgS W (Lt W.heap.size) u b[k].legs → ∀ W', Fr No W W' → Calls Tryz.prog 57 #[a[k].val v, b[k].val u] W' fun e w' => e = .returned (.bool (eqO a[k] b[k])) ∧ Fr No W' w') := fun W k h1 h2 v u hv hu W' hW => osame_any _ _ _ _ _ _ _ (hv.no hW) (hu.no hW)
    have hen : ∀ args W, (callFunc 57 args).run Tryz.prog W = .ok (.enter 57 args) W := enters_of Tryz.func57 (by kernel_rfl) rfl
    have HE : Hid (b.length = a.length) := he.symm
    clear ha hb
    go_enter Tryz.func56, Tryz.ntmps56
    rw [← he]
    clear he hei
    go_wp2
    go_loopw [17] (fun iv wr => EqRow w a b iv wr) (fun iv _ => a.length - (intOf iv).toNat)
    case atStart => exact ⟨0, Nat.zero_le _, rfl, rfl, Fr.refl _ _⟩
    case round =>
      obtain ⟨k, hk, rfl, htk, hfr⟩ := hrel
      have hk62 : (k : Int) ≤ 1000000 := by omega
      by_cases hlt : k < a.length
      · have hka := hlt
        have hkb : k < b.length := by have := HE.out; omega
        obtain ⟨ad, v, rfl, _, _, _, hLa, q0, q1, q2, q3, q4, q5, q6, q7, q8, q9⟩ := (HA.out.no hfr).ods.at_ k hka
        obtain ⟨bd, u, rfl, _, _, _, hLb, p0, p1, p2, p3, p4, p5, p6, p7, p8, p9⟩ := (HB.out.no hfr).ods.at_ k hkb
        obtain ⟨A1, d1, rfl, hd1, hd1'⟩ := hLa.form
        obtain ⟨B1, d2, rfl, hd2, hd2'⟩ := hLb.form
        have HC := Lib.hid (HSM.out wr k hka hkb _ _ hLa hLb)
        have HIF : Hid (eqO a[k] b[k] = true ↔ a[k] = b[k]) := eqO_iff _ _
        have HNX : Hid (a[k] = b[k] → EqRow w a b (.int .i64 ((k + 1 : Nat) : Int)) wr) := fun e => ⟨k + 1, hka, rfl, take_next hka hkb htk e, hfr⟩
        have HNE : Hid (a[k] ≠ b[k] → a ≠ b) := fun h e => h (by subst e; rfl)
        have HFR := Lib.hid hfr
        unfold Od.val Od.cs at HC
        simp only [List.toArray] at HC
        clear hLa hLb hfr htk
        generalize a[k].legs.length = L at *
        generalize a[k].cl = cl at *
        generalize a[k].sq = sq at *
        generalize a[k].kd = kd at *
        generalize a[k].acct = acct at *
        generalize a[k].peer = peer at *
        generalize a[k].sum = sum at *
        generalize a[k].per = per at *
        generalize a[k].hold = hold at *
        generalize a[k].note = note at *
        generalize b[k].legs.length = L' at *
        generalize b[k].cl = cl' at *
        generalize b[k].sq = sq' at *
        generalize b[k].kd = kd' at *
        generalize b[k].acct = acct' at *
        generalize b[k].peer = peer' at *
        generalize b[k].sum = sum' at *
        generalize b[k].per = per' at *
        generalize b[k].hold = hold' at *
        generalize b[k].note = note' at *
        have hfA : Fr No wr (wr.alloc (.cells #[.int .i64 cl, .int .i64 sq, .int .i64 kd, .string acct, .string peer, .int .i64 sum, .slice A1 L d1, .int .i64 per, .int .i64 hold, .string note] 47)) := (Fr.refl _ _).alloc _
        have P0 := hfA.cell_some p0 (fun h => h)
        have P1 := hfA.cell_some p1 (fun h => h)
        have P2 := hfA.cell_some p2 (fun h => h)
        have P3 := hfA.cell_some p3 (fun h => h)
        have P4 := hfA.cell_some p4 (fun h => h)
        have P5 := hfA.cell_some p5 (fun h => h)
        have P6 := hfA.cell_some p6 (fun h => h)
        have P7 := hfA.cell_some p7 (fun h => h)
        have P8 := hfA.cell_some p8 (fun h => h)
        have P9 := hfA.cell_some p9 (fun h => h)
        clear hfA
        generalize a[k] = oa at *
        generalize b[k] = ob at *
        generalize eqO oa ob = r at *
        cases r
        · go_wp2_with fail
          (with_reducible refine (HC.out _ (((Fr.refl _ _).alloc _).alloc _)).mono ?_)
          rintro e w1 ⟨rfl, hf1⟩
          go_wp2
          go_ret
          exact ⟨false, rfl, ⟨fun h => (by cases h), fun h => absurd h (HNE.out fun e => by have := HIF.out.2 e; cases this)⟩, HFR.out.trans ((((Fr.refl _ _).alloc _).alloc _).trans hf1)⟩
        · go_wp2_with fail
          (with_reducible refine (HC.out _ (((Fr.refl _ _).alloc _).alloc _)).mono ?_)
          rintro e w1 ⟨rfl, hf1⟩
          go_wp2
          go_roundw
          case rel =>
            obtain ⟨k', h1, h2, h3, h4⟩ := HNX.out (HIF.out.1 (by first | rfl | trivial))
            exact ⟨k', h1, by rw [← h2]; go_num, h3, h4.trans ((((Fr.refl _ _).alloc _).alloc _).trans hf1)⟩
          case measure => simp [intOf]; omega
      · obtain rfl : k = a.length := by omega
        have HEQ : Hid (a = b) := by
          have h1 := htk
          rw [List.take_length] at h1
          rw [← HE.out, List.take_length] at h1
          exact h1
        have HFR := Lib.hid hfr
        clear htk hfr
        go_wp2
        go_ret
        exact ⟨true, rfl, ⟨fun _ => HEQ.out, fun _ => rfl⟩, HFR.out⟩
  · have hei : ((a.length : Int) != (b.length : Int)) = true := bne_iff_ne.2 (by omega)
    have hen : (a.length != b.length) = true := bne_iff_ne.2 he
    have hey : ((a.length : Int) == (b.length : Int)) = false := beq_eq_false_iff_ne.2 (by omega)
    have HN : Hid (a ≠ b) := fun e => he (by rw [e])
    clear ha hb
    generalize a.length = n at *
    generalize b.length = m at *
    go_enter Tryz.func56, Tryz.ntmps56
    go_wp2
    go_ret
    exact ⟨false, rfl, ⟨fun h => (by cases h), fun h => absurd h HN.out⟩, Fr.refl _ _⟩
set_option maxRecDepth 100000 in
theorem sameRow_any (w : World) (F G : Nat → Prop) (A B : Option Addr) (c d : Nat) (a b : List Od) (ha : Ls w F A c a) (hb : Ls w G B d b) :
    Calls Tryz.prog 55 #[.slice A a.length c, .slice B b.length d] w (Told w (a = b)) := by
  have H := Lib.hid (eqRow_any w F G A B c d a b ha hb)
  clear ha hb
  go_enter Tryz.func55, Tryz.ntmps55
  go_wp2_with fail
  (with_reducible refine H.out.mono ?_)
  rintro e w1 ⟨r, rfl, h1, h2⟩
  go_wp2
  go_ret
  exact ⟨r, rfl, h1, h2⟩
set_option maxRecDepth 100000 in
set_option maxHeartbeats 1000000 in
theorem eqRows_any (w : World) (A B : Option Addr) (c d : Nat) (S T : List (List Od)) (hS : StS w A S) (hT : StS w B T) (hn : S.length ≤ 1000000) :
    Calls Tryz.prog 58 #[.slice A S.length c, .slice B T.length d, .func (.func 55) #[] #[]] w (Told w (S = T)) := by
  by_cases he : S.length = T.length
  · have HA := Lib.hid hS
    have HB := Lib.hid hT
    have hei : ((S.length : Int) != (T.length : Int)) = false := by rw [he]; exact bne_self_eq_false _
    have hen : ∀ args W, (callFunc 55 args).run Tryz.prog W = .ok (.enter 55 args) W := enters_of Tryz.func55 (by kernel_rfl) rfl
    have HE : Hid (T.length = S.length) := he.symm
    clear hS hT
    go_enter Tryz.func58, Tryz.ntmps58
    rw [← he]
    clear he hei
    go_wp2
    go_loopw [17] (fun iv wr => EqRow w S T iv wr) (fun iv _ => S.length - (intOf iv).toNat)
    case atStart => exact ⟨0, Nat.zero_le _, rfl, rfl, Fr.refl _ _⟩
    case round =>
      obtain ⟨k, hk, rfl, htk, hfr⟩ := hrel
      have hk62 : (k : Int) ≤ 1000000 := by omega
      by_cases hlt : k < S.length
      · have hka := hlt
        have hkb : k < T.length := by have := HE.out; omega
        obtain ⟨ad, A1, c1, rfl, q0, hLa⟩ := (HA.out.no hfr).at_ k hka
        obtain ⟨bd, B1, c2, rfl, p0, hLb⟩ := (HB.out.no hfr).at_ k hkb
        have HC := Lib.hid (sameRow_any wr _ _ A1 B1 c1 c2 S[k] T[k] hLa hLb)
        have HNX : Hid (S[k] = T[k] → EqRow w S T (.int .i64 ((k + 1 : Nat) : Int)) wr) := fun e => ⟨k + 1, hka, rfl, take_next hka hkb htk e, hfr⟩
        have HNE : Hid (S[k] ≠ T[k] → S ≠ T) := fun h e => h (by subst e; rfl)
        have HFR := Lib.hid hfr
        clear hLa hLb hfr htk
        generalize S[k] = oa at *
        generalize T[k] = ob at *
        go_wp2_with fail
        (with_reducible refine HC.out.mono ?_)
        rintro e w1 ⟨r, rfl, hr, hf1⟩
        have HIF := Lib.hid hr
        clear hr
        cases r
        · go_wp2
          go_ret
          exact ⟨false, rfl, ⟨fun h => (by cases h), fun h => absurd h (HNE.out fun e => by have := HIF.out.2 e; cases this)⟩, HFR.out.trans hf1⟩
        · go_wp2
          go_roundw
          case rel =>
            obtain ⟨k', h1, h2, h3, h4⟩ := HNX.out (HIF.out.1 (by first | rfl | trivial))
            exact ⟨k', h1, by rw [← h2]; go_num, h3, h4.trans hf1⟩
          case measure => simp [intOf]; omega
      · obtain rfl : k = S.length := by omega
        have HEQ : Hid (S = T) := by
          have h1 := htk
          rw [List.take_length] at h1
          rw [← HE.out, List.take_length] at h1
          exact h1
        have HFR := Lib.hid hfr
        clear htk hfr
        go_wp2
        go_ret
        exact ⟨true, rfl, ⟨fun _ => HEQ.out, fun _ => rfl⟩, HFR.out⟩
  · have hei : ((S.length : Int) != (T.length : Int)) = true := bne_iff_ne.2 (by omega)
    have hen : (S.length != T.length) = true := bne_iff_ne.2 he
    have hey : ((S.length : Int) == (T.length : Int)) = false := beq_eq_false_iff_ne.2 (by omega)
    have HN : Hid (S ≠ T) := fun e => he (by rw [e])
    clear hS hT
    generalize S.length = n at *
    generalize T.length = m at *
    go_enter Tryz.func58, Tryz.ntmps58
    go_wp2
    go_ret
    exact ⟨false, rfl, ⟨fun h => (by cases h), fun h => absurd h HN.out⟩, Fr.refl _ _⟩
set_option maxRecDepth 100000 in
set_option maxHeartbeats 1000000 in
theorem normal_any (w : World) (A : Option Addr) (c : Nat) (S : List (List Od)) (h : StS w A S) (hl : S.length ≤ 100000) (hL : (flatS S).length ≤ 100000) (hs : ∀ o ∈ flatS S, o.legs.length ≤ 100000) :
    Calls Tryz.prog 25 #[.slice A S.length c] w (Told w (NormalO S)) := by
  have HL := Lib.hid (lay_any A c S w h hl hL hs)
  have HR : Hid (∀ W A' c', OwnN w.heap.size W (.slice A' (flatS S).length c') (flatS S) → Calls Tryz.prog 29 #[.slice A' (flatS S).length c'] W fun e w' => e = .returned (.bool (rightL (flatS S))) ∧ Fr No W w') := fun W A' c' ho => rightC_any W W _ A' c' _ (ho.ls (by omega) hs).ods (by omega)
  have HST : Hid (∀ W A' c', OwnN w.heap.size W (.slice A' (flatS S).length c') (flatS S) → Calls Tryz.prog 14 #[.slice A' (flatS S).length c'] W (StepsRet W (flatS S))) := fun W A' c' ho => steps_any W _ A' c' _ (ho.ls (by omega) hs) hL
  have HEQ : Hid (∀ W B d T, Fr No w W → StS W B T → Calls Tryz.prog 58 #[.slice A S.length c, .slice B T.length d, .func (.func 55) #[] #[]] W (Told W (S = T))) := fun W B d T hW hT => eqRows_any W A B c d S T (h.no hW) hT (by omega)
  have HN0 : Hid (rightL (flatS S) = false → ¬ NormalO S) := fun e hn => by
    have := (rightL_iff _).2 hn.1
    unfold flatS at e
    rw [this] at e
    cases e
  have HN1 : Hid (rightL (flatS S) = true → ∀ T, StepsO (flatS S) T → (S = T ↔ NormalO S)) := fun e T hT => by
    constructor
    · intro e2
      subst e2
      exact ⟨(rightL_iff _).1 e, hT⟩
    · intro hn
      exact steps_uniq hn.2 hT
  clear h hl hL hs
  generalize flatS S = l at *
  generalize NormalO S = P at *
  cases hr : rightL l
  · rw [hr] at HR
    have HNN := Lib.hid (HN0.out hr)
    clear HN0 HN1 hr
    go_enter Tryz.func25, Tryz.ntmps25
    go_wp2_with fail
    (with_reducible refine HL.out.mono ?_)
    rintro e w1 ⟨A1, c1, rfl, ho1, hf1, -⟩
    go_wp2_with fail
    (with_reducible refine (HR.out _ _ _ ho1).mono ?_)
    rintro e w2 ⟨rfl, hf2⟩
    go_wp2
    go_ret
    exact ⟨false, rfl, ⟨fun h => (by cases h), fun h => absurd h HNN.out⟩, hf1.trans hf2⟩
  · rw [hr] at HR
    have HNN := Lib.hid (HN1.out hr)
    have HRR : Hid (rightL l = true) := hr
    clear HN0 HN1 hr
    go_enter Tryz.func25, Tryz.ntmps25
    go_wp2_with fail
    (with_reducible refine HL.out.mono ?_)
    rintro e w1 ⟨A1, c1, rfl, ho1, hf1, -⟩
    go_wp2_with fail
    (with_reducible refine (HR.out _ _ _ ho1).mono ?_)
    rintro e w2 ⟨rfl, hf2⟩
    go_wp2_with fail
    (with_reducible refine (HST.out _ _ _ (ho1.no hf2)).mono ?_)
    rintro e w3 ⟨A3, c3, T, rfl, -, hT, hf3, hT1, -⟩
    go_wp2_with fail
    (with_reducible refine (HEQ.out _ _ _ _ ((hf1.trans hf2).trans hf3) hT).mono ?_)
    rintro e w4 ⟨r, rfl, hr4, hf4⟩
    go_wp2
    go_ret
    exact ⟨r, rfl, hr4.trans (HNN.out T (hT1 HRR.out)), ((hf1.trans hf2).trans hf3).trans hf4⟩
end Go.Proofs.YtnphncemghfkbaaGreat

namespace Go.My
open Go.RowKit
set_option linter.unusedSimpArgs false
set_option linter.unusedVariables false
theorem bytes_of_str {P : Program} (w : World) (src dst e : TypeId) (t : List UInt8) (hs : P.underlying src = some .string) (hd : P.underlying dst = some (.slice e)) (he : P.underlying e = some (.int .u8)) :
    ∃ c W', (convert src dst (.string ⟨t.toArray⟩)).run P w = .ok (.slice (some ⟨w.heap.size, 0, none⟩) t.length c) W' ∧ Fr No w W' ∧ Rd W' (fun _ => True) 1 (some ⟨w.heap.size, 0, none⟩) t.length (bs t) := by
  have h := Lib.run_convert_string_bytes (P := P) w src dst e ⟨t.toArray⟩ hs hd he
  have hsz : (⟨t.toArray⟩ : ByteArray).size = t.length := by show t.toArray.size = _; simp
  rw [hsz] at h
  refine ⟨_, _, h, ⟨?_, ?_, ?_, ?_, fun k hk _ => Lib.bytesWorld_at_old w e _ k hk⟩, ⟨by rw [bs_length]; omega, fun _ => ⟨_, rfl, trivial, fun j u hu => ?_⟩⟩⟩
  · unfold Lib.bytesWorld World.freeze; split <;> rfl
  · unfold Lib.bytesWorld World.freeze; split <;> rfl
  · unfold Lib.bytesWorld World.freeze; split <;> rfl
  · rw [Lib.bytesWorld_size]; omega
  · have hj : j < (bs t).length := (List.getElem?_eq_some_iff.1 hu).1
    rw [bs_length] at hj
    rw [add_zero, Lib.bytesWorld_cell w e _ j (by rw [hsz]; exact hj)]
    rw [bs_get t j hj] at hu
    rw [← hu]
    simp [List.getD, hj]
end Go.My

namespace Go.Proofs.YtnphncemghfkbaaGreat
open Go.RowKit Go.My Go.Maps Go.WideMaps
set_option linter.unusedSimpArgs false
set_option linter.unusedVariables false
attribute [local go_sem ↓] Go.wp_at_zero Go.wp_at_succ

/-- blocks of legs -/
def LegB (w : World) (k : Nat) : Prop := ∃ cur, Blk w k 92 cur
/-- a row of orders of the call's own, its legs in blocks of legs -/
def RowT (w : World) (v : Value) (s : List Od) : Prop := ∃ cells, Own w 47 10 v s.length cells ∧ Each (OdRF w (LegB w)) 10 cells s
theorem legB_fr {w w' : World} {S : Nat → Prop} (hf : Fr S w w') (hS : ∀ k, S k → ¬ LegB w k) {k : Nat} (h : LegB w k) : LegB w' k := by
  obtain ⟨cur, hc⟩ := h
  exact ⟨cur, hc.fr hf fun hs => hS k hs ⟨cur, hc⟩⟩
theorem odT_fr {w w' : World} {S : Nat → Prop} (hf : Fr S w w') (hS : ∀ k, S k → ¬ LegB w k) {cs : List Value} {o : Od} (h : OdRF w (LegB w) cs o) : OdRF w' (LegB w') cs o := by
  obtain ⟨v, h1, h2, h3, h4⟩ := h
  exact ⟨v, h1, h2, h3, (h4.frS hf fun k hk _ hs => hS k hs hk).more fun k hk => legB_fr hf hS hk⟩
theorem RowT.fr {w w' : World} {S : Nat → Prop} {v : Value} {s : List Od} (h : RowT w v s) (hf : Fr S w w') (hS : ∀ k, S k → ¬ LegB w k) (hv : ∀ k, v.ownBlock = some k → ¬ S k) : RowT w' v s := by
  obtain ⟨cells, ho, hE⟩ := h
  exact ⟨cells, ho.fr hf hv, each_imp hE fun cs o h => odT_fr hf hS h⟩
theorem RowT.no {w w' : World} {v : Value} {s : List Od} (h : RowT w v s) (hf : Fr No w w') : RowT w' v s := h.fr hf (fun _ h => h.elim) (fun _ _ h => h)
theorem RowT.nil (w : World) : RowT w (.slice none 0 0) [] := ⟨[], Own.nil _ _ _, ⟨rfl, fun i x hx => by simp at hx⟩⟩
theorem RowT.form {w : World} {v : Value} {s : List Od} (h : RowT w v s) : ∃ A c, v = .slice A s.length c ∧ s.length ≤ c ∧ c ≤ maxLen := by
  obtain ⟨cells, ho, _⟩ := h
  exact ho.form
/-- a block of another type is none of legs, and not the row's -/
theorem RowT.other {w w' : World} {v : Value} {s : List Od} (h : RowT w v s) {p : Nat} {t : TypeId} {cs : Array Value} (hp : Blk w p t cs) (h1 : t ≠ 92) (h2 : t ≠ 47) (hf : Fr (At1 p) w w') : RowT w' v s := by
  refine h.fr hf (fun k hk hL => ?_) (fun k hk hS => ?_)
  · obtain ⟨cur, hc⟩ := hL
    rw [show k = p from hk] at hc
    exact hp.ne_ hc h1 rfl
  · obtain ⟨cells, ho, _⟩ := h
    obtain ⟨cur, hc⟩ := ho.blk k hk
    rw [show k = p from hS] at hc
    exact hp.ne_ hc h2 rfl
/-- one order more -/
theorem rowT_snoc {w w1 w2 : World} {v v' vl : Value} {cells : List Value} {L : List Od} {o : Od} (ho : Own w 47 10 v L.length cells) (hE : Each (OdRF w (LegB w)) 10 cells L) (hf : Fr No w w1) (hok : o.ok) (hl : Own w1 92 2 vl o.legs.length (lgs o.legs)) (hg : ∀ g ∈ o.legs, g.ok)
    (hf2 : Fr (AtO v.ownBlock) w1 w2) (hn : Own w2 47 10 v' (L.length + 1) (cells ++ o.cs vl)) : RowT w2 v' (L ++ [o]) := by
  have ho1 := ho.fr hf (fun _ _ h => h)
  have hS : ∀ k, AtO v.ownBlock k → ¬ LegB w1 k := fun k hk hL => by
    obtain ⟨cur, hc⟩ := hL
    obtain ⟨cur2, hc2⟩ := ho1.blk k hk
    exact hc.ne_ hc2 (by decide) rfl
  refine ⟨_, by rw [List.length_append]; exact hn, each_snoc (each_imp hE fun cs o h => odT_fr hf2 hS (odT_fr hf (fun _ h => h.elim) h)) (by omega) rfl ⟨vl, rfl, hok, hg, ?_⟩⟩
  obtain ⟨A, c, e, h1, h2⟩ := hl.form
  subst e
  have hl1 : LgS w1 (LegB w1) (.slice A o.legs.length c) o.legs := ⟨A, c, _, rfl, hl.rd.more fun k hk => hl.blk k hk, lgs_each o.legs hg, h1, h2⟩
  exact (hl1.frS hf2 fun k hk _ hs => hS k hs hk).more fun k hk => legB_fr hf2 hS hk
/-- where the loop stands -/
def RsRel (w : World) (p q N : Nat) (R : Option (List Od × List UInt8)) (ev sv iv : Value) (wr : World) : Prop :=
  ∃ i : Nat, i ≤ N ∧ iv = .int .i64 i ∧ Fr (At1 p) w wr ∧ (∀ k, sv.ownBlock = some k → w.heap.size ≤ k) ∧
    ((∃ L l', ev = .int .i64 0 ∧ (L : List Od).length = i ∧ RowT wr sv L ∧ Rdr wr p q l' 0 ∧ R = (rords (N - i) l').map (fun r => (L ++ r.1, r.2)) ∧ (∀ o ∈ L, rightO o = true)) ∨
     (∃ (k : Nat) (A : Option Addr) (n c : Nat), k ≠ 0 ∧ k ≤ 10 ∧ ev = .int .i64 (k : Int) ∧ R = none ∧ sv = .slice A n c ∧ n ≤ N))
def RsRet (w : World) (p q : Nat) (most : Int) (l : List UInt8) (e : Ending) (w' : World) : Prop :=
  ∃ (A : Option Addr) (n c k : Nat), e = .returned (.tuple #[.slice A n c, .int .i64 (k : Int)]) ∧ Fr (At1 p) w w' ∧ n ≤ 1000 ∧
    ((∃ L rest, rstep most l = some (L, rest) ∧ k = 0 ∧ n = L.length ∧ RowT w' (.slice A n c) L ∧ Rdr w' p q rest 0 ∧ (∀ o ∈ L, rightO o = true)) ∨ (rstep most l = none ∧ k ≠ 0 ∧ k ≤ 10))
end Go.Proofs.YtnphncemghfkbaaGreat

namespace Go.Proofs.YtnphncemghfkbaaGreat
open Go.RowKit Go.My Go.Maps Go.WideMaps
set_option linter.unusedSimpArgs false
set_option linter.unusedVariables false
attribute [local go_sem ↓] Go.wp_at_zero Go.wp_at_succ

theorem rords_succ (k : Nat) (l : List UInt8) : rords (k + 1) l = if (rtext 1000 l 0).2.1 = 0 ∧ readB (rtext 1000 l 0).1 = true then (rords k (rtext 1000 l 0).2.2).map fun r => (readO (rtext 1000 l 0).1 :: r.1, r.2) else none := rfl
theorem rrange_zero (lo hi : Int) (l : List UInt8) (e : Nat) (h : (rrange lo hi l e).2.1 ≠ 0) : (rrange lo hi l e).1 = 0 := by
  unfold rrange at h ⊢
  split
  · rfl
  · rename_i h0
    split
    · rfl
    · rename_i h1
      rw [if_neg h0, if_neg h1] at h
      exact absurd h h0
set_option maxRecDepth 100000 in
set_option maxHeartbeats 2000000 in
theorem readStep_any (w : World) (p q : Nat) (most : Int) (l : List UInt8) (h : Rdr w p q l 0) (h0 : 0 ≤ most) (h1 : most ≤ 200) :
    Calls Tryz.prog 49 #[.pointer (some ⟨p, 0, none⟩), .int .i64 most] w (RsRet w p q most l) := by
  have HR := Lib.hid (rrange_at p q 1 most l 0 w h (by omega))
  have hplt := h.lt
  have hqlt := (Rdr_q h).2
  have HPQ : Hid (p < w.heap.size ∧ q < w.heap.size) := ⟨hplt, hqlt⟩
  have HRS : Hid (rstep most l = if (rrange 1 most l 0).2.1 = 0 then rords (rrange 1 most l 0).1.toNat (rrange 1 most l 0).2.2 else none) := rfl
  have hre : (rrange 1 most l 0).2.1 < 5 := rrange_err 1 most l 0 (by omega)
  unfold two at HR
  by_cases he : (rrange 1 most l 0).2.1 = 0
  · obtain ⟨hb0, hb1, hb2⟩ := rrng_only 1 most l he
    rw [he] at HR
    rw [if_pos he] at HRS
    obtain ⟨N, hN⟩ : ∃ N : Nat, (rrange 1 most l 0).1 = (N : Int) := ⟨(rrange 1 most l 0).1.toNat, by omega⟩
    rw [hN] at HR HRS hb1 hb2
    rw [Int.toNat_natCast] at HRS
    have hN2 : N ≤ 200 := by omega
    clear hb0 he hre hN h
    generalize (rrange 1 most l 0).2.2 = l1 at *
    have HTX : Hid (∀ W l', Rdr W p q l' 0 → Calls Tryz.prog 76 #[.pointer (some ⟨p, 0, none⟩), .int .i64 1000] W (RetR W p q (twoS (rtext 1000 l' 0).1 (rtext 1000 l' 0).2.1) (rtext 1000 l' 0).2.2 (rtext 1000 l' 0).2.1)) := fun W l' hW => rtext_at p q 1000 l' 0 W hW (by omega)
    have HRD : Hid (∀ W n A c t, (t : List UInt8).length = n → Rd W (fun _ => True) 1 A n (bs t) → n ≤ 1000 → Calls Tryz.prog 77 #[.slice A n c] W (RetOd (readO t) (readE t) W)) := fun W n A c t h1 h2 h3 => oread_any _ A n c t W h1 h2 (by omega)
    unfold twoS at HTX
    go_enter Tryz.func49, Tryz.ntmps49
    go_wp2_with fail
    (with_reducible refine HR.out.mono ?_)
    rintro e w1 ⟨rfl, hr1, hf1⟩
    have HR1 := Lib.hid hr1
    have HF1 := Lib.hid hf1
    clear hr1 hf1 HR
    go_wp2
    go_loopw [7, 8, 9] (fun ev sv iv wr => RsRel w p q N (rords N l1) ev sv iv wr) (fun _ _ iv _ => N - (intOf iv).toNat)
    case atStart =>
      refine ⟨0, Nat.zero_le _, rfl, HF1.out, fun k hk => (by cases hk), .inl ⟨[], l1, rfl, rfl, RowT.nil _, HR1.out, ?_, fun o ho => (by cases ho)⟩⟩
      rw [Nat.sub_zero]
      cases rords N l1 with
      | none => rfl
      | some r => rfl
    case round =>
      obtain ⟨i, hi, rfl, hfr, hnew, ⟨L, l', rfl, hLi, hrow, hrd, hR, hok⟩ | ⟨k, A, n, c, hk0, hk10, rfl, hR, rfl, hn⟩⟩ := hrel
      · have hi62 : (i : Int) ≤ 200 := by omega
        obtain ⟨SVA, SVc, hSV, -, -⟩ := hrow.form
        subst hSV
        by_cases hlt : i < N
        · have hlti : (i : Int) < (N : Int) := by omega
          have hte : (rtext 1000 l' 0).2.1 < 5 := rtext_err 1000 l' 0 (by omega)
          have htm : ((rtext 1000 l' 0).1.length : Int) ≤ 1000 := rtext_most 1000 (by omega) l' 0
          have hNi : N - i = (N - (i + 1)) + 1 := by omega
          rw [hNi, rords_succ] at hR
          obtain ⟨cells, hown, hE⟩ := hrow
          have HOWN := Lib.hid hown
          have HEA := Lib.hid hE
          have HFR := Lib.hid hfr
          have HNEW := Lib.hid hnew
          have HRDR := Lib.hid hrd
          have HT := Lib.hid (HTX.out (wr.alloc (.cells #[.int .i64 0, .int .i64 0, .int .i64 0, .string ⟨#[]⟩, .string ⟨#[]⟩, .int .i64 0, .slice none 0 0, .int .i64 0, .int .i64 0, .string ⟨#[]⟩] 47)) l' (Rdr_no hrd ((Fr.refl _ _).alloc _)))
          have HBZ : Hid (Blk (wr.alloc (.cells #[.int .i64 0, .int .i64 0, .int .i64 0, .string ⟨#[]⟩, .string ⟨#[]⟩, .int .i64 0, .slice none 0 0, .int .i64 0, .int .i64 0, .string ⟨#[]⟩] 47)) wr.heap.size 47 #[.int .i64 0, .int .i64 0, .int .i64 0, .string ⟨#[]⟩, .string ⟨#[]⟩, .int .i64 0, .slice none 0 0, .int .i64 0, .int .i64 0, .string ⟨#[]⟩]) := Blk.new _ _ _
          have HPL : Hid (p < wr.heap.size) := hrd.lt
          have HPB : Hid (∃ cs, Blk wr p 99 cs) := by
            obtain ⟨A, c, hb, _⟩ := hrd
            exact ⟨_, hb⟩
          have hLl : L.length ≤ 200 := by omega
          have HLI : Hid (L.length = i) := hLi
          clear hown hE hfr hnew hrd hLi
          -- what follows, whatever has been read
          have HFA : Hid (Fr No wr (wr.alloc (.cells #[.int .i64 0, .int .i64 0, .int .i64 0, .string ⟨#[]⟩, .string ⟨#[]⟩, .int .i64 0, .slice none 0 0, .int .i64 0, .int .i64 0, .string ⟨#[]⟩] 47))) := (Fr.refl _ _).alloc _
          have HBX : Hid (L.length + 1 ≤ maxLen ∧ (L.length + 1) * 120 ≤ 140737488355328) := by
            refine ⟨?_, ?_⟩ <;> (try simp only [maxLen]) <;> omega
          generalize htt : (rtext 1000 l' 0).1 = t at *
          generalize htr : (rtext 1000 l' 0).2.2 = lr at *
          have HSZ : Hid (w.heap.size ≤ wr.heap.size) := HFR.out.size
          have HO1 : Hid (∀ W, Fr (At2 p (some wr.heap.size)) (wr.alloc (.cells #[.int .i64 0, .int .i64 0, .int .i64 0, .string ⟨#[]⟩, .string ⟨#[]⟩, .int .i64 0, .slice none 0 0, .int .i64 0, .int .i64 0, .string ⟨#[]⟩] 47)) W → Own W 47 10 _ L.length cells ∧ Each (OdRF W (LegB W)) 10 cells L) := fun W hW => by
            obtain ⟨cs, hp⟩ := HPB.out
            have hp2 := hp.fr HFA.out (fun h => h)
            refine ⟨(HOWN.out.fr HFA.out (fun _ _ h => h)).fr hW fun k hk hS => ?_, each_imp HEA.out fun cs o h => odT_fr hW (fun k hk hL => ?_) (odT_fr HFA.out (fun _ h => h.elim) h)⟩
            · obtain ⟨cur, hc⟩ := HOWN.out.blk k hk
              rcases hS with hS | hS
              · rw [show k = p from hS] at hc
                exact hp.ne_ hc (by decide) rfl
              · injection hS with hS
                have := hc.lt
                omega
            · obtain ⟨cur, hc⟩ := hL
              rcases hk with hk | hk
              · rw [show k = p from hk] at hc
                exact hp2.ne_ hc (by decide) rfl
              · injection hk with hk
                rw [← hk] at hc
                exact hc.ne_ HBZ.out (by decide) rfl
          have HFRW : Hid (∀ w2 w4 w5 w6 w7, Fr (At1 p) (wr.alloc (.cells #[.int .i64 0, .int .i64 0, .int .i64 0, .string ⟨#[]⟩, .string ⟨#[]⟩, .int .i64 0, .slice none 0 0, .int .i64 0, .int .i64 0, .string ⟨#[]⟩] 47)) w2 → Fr No w2 w4 → Fr (At1 wr.heap.size) w4 w5 → Fr No w5 w6 → Fr (AtO (Value.slice SVA L.length SVc).ownBlock) w6 w7 → Fr (At1 p) w w7) := fun w2 w4 w5 w6 w7 k2 k4 k5 k6 k7 => by
            have s2 := HSZ.out
            refine ((((((HFR.out.alloc _).trans k2).trans' k4 fun i hi _ => hi.elim).trans' k5 fun i hi hlt => ?_).trans' k6 fun i hi _ => hi.elim).trans' k7 fun i hi hlt => ?_)
            · have : i = wr.heap.size := hi
              omega
            · have := HNEW.out i hi
              omega
          have HRDW : Hid (∀ w2 w4 w5 w6 w7 lx ex, Rdr w2 p q lx ex → Fr No w2 w4 → Fr (At1 wr.heap.size) w4 w5 → Fr No w5 w6 → Fr (AtO (Value.slice SVA L.length SVc).ownBlock) w6 w7 → Rdr w7 p q lx ex) := fun w2 w4 w5 w6 w7 lx ex k2 k4 k5 k6 k7 => by
            have s2 := HSZ.out
            have hp := HPQ.out
            refine (Rdr_no ((Rdr_no k2 k4).fr k5 (fun e => ?_) (fun e => ?_)) k6).fr k7 (fun e => ?_) (fun e => ?_)
            · have : p = wr.heap.size := e
              omega
            · have : q = wr.heap.size := e
              omega
            · have := HNEW.out p e
              omega
            · have := HNEW.out q e
              omega
          by_cases hte0 : (rtext 1000 l' 0).2.1 = 0
          · rw [hte0] at HT hR
            have HOK : Hid ((readO t).ok ∧ ∀ g ∈ (readO t).legs, g.ok) := read_ok t
            have HCASE : Hid ((readE t = 0 ∧ rightO (readO t) = true ∧ rords N l1 = (rords (N - (i + 1)) lr).map (fun r => ((L ++ [readO t]) ++ r.1, r.2))) ∨ (readE t = 3 ∧ rords N l1 = none)) := by
              cases hb : readB t with
              | true =>
                left
                refine ⟨by unfold readE; rw [if_pos hb], (read_bytes hb).1, ?_⟩
                rw [hR, if_pos ⟨rfl, hb⟩]
                cases rords (N - (i + 1)) lr with
                | none => rfl
                | some r => simp
              | false =>
                right
                refine ⟨by unfold readE; rw [if_neg (by rw [hb]; decide)], ?_⟩
                rw [hR, if_neg (fun h => by rw [hb] at h; cases h.2)]
                rfl
            have HRX := Lib.hid HRD.out
            have HKO := Lib.hid hok
            clear hR hok
            have htl : t.length ≤ 1000 := by omega
            go_wp2_with fail
            (with_reducible refine HT.out.mono ?_)
            rintro e w2 ⟨rfl, hr2, hf2⟩
            have HR2 := Lib.hid hr2
            have HF2 := Lib.hid hf2
            obtain ⟨c3, w3, hcv, hf3, hrd3⟩ := bytes_of_str (P := Tryz.prog) w2 9 25 5 t Tryz.underlying9 Tryz.underlying25 Tryz.underlying5
            have HF3 := Lib.hid hf3
            have HR3 := Lib.hid hrd3
            clear hr2 hf2 hf3 hrd3
            go_wp2_with fail
            (with_reducible refine (HRX.out _ _ _ _ t rfl HR3.out htl).mono ?_)
            rintro e w4 ⟨v, rfl, hl4, hf4⟩
            have HL4 := Lib.hid hl4
            have HF4 := Lib.hid (HF3.out.trans hf4)
            have hbz := ((HBZ.out.fr HF2.out (fun e => by have : wr.heap.size = p := e; have := HPL.out; omega)).fr HF4.out (fun h => h))
            have HBZ4 := Lib.hid hbz
            obtain ⟨Al, cl_, rfl, -, -⟩ := hl4.form
            clear hl4 hf4 hcv
            generalize readE t = re at *
            generalize readO t = o at *
            obtain ⟨cl, sq, kd, acct, peer, sum, lg, per, hold, note⟩ := o
            unfold Od.val Od.cs at *
            simp only at HL4 HOK HCASE ⊢
            have y0 := hbz.cell 0
            have y1 := hbz.cell 1
            have y2 := hbz.cell 2
            have y3 := hbz.cell 3
            have y4 := hbz.cell 4
            have y5 := hbz.cell 5
            have y6 := hbz.cell 6
            have y7 := hbz.cell 7
            have y8 := hbz.cell 8
            have y9 := hbz.cell 9
            have zy0 := hbz.frozen 0
            have zy1 := hbz.frozen 1
            have zy2 := hbz.frozen 2
            have zy3 := hbz.frozen 3
            have zy4 := hbz.frozen 4
            have zy5 := hbz.frozen 5
            have zy6 := hbz.frozen 6
            have zy7 := hbz.frozen 7
            have zy8 := hbz.frozen 8
            have zy9 := hbz.frozen 9
            simp only [List.getElem?_toArray, List.getElem?_cons_zero, List.getElem?_cons_succ] at y0 y1 y2 y3 y4 y5 y6 y7 y8 y9
            have hfb := fr_set10 w4 wr.heap.size (.int .i64 cl) (.int .i64 sq) (.int .i64 kd) (.string acct) (.string peer) (.int .i64 sum) (.slice Al lg.length cl_) (.int .i64 per) (.int .i64 hold) (.string note)
            have hb5 := (((((((((hbz.set_ 0 (.int .i64 cl)).set_ 1 (.int .i64 sq)).set_ 2 (.int .i64 kd)).set_ 3 (.string acct)).set_ 4 (.string peer)).set_ 5 (.int .i64 sum)).set_ 6 (.slice Al lg.length cl_)).set_ 7 (.int .i64 per)).set_ 8 (.int .i64 hold)).set_ 9 (.string note)
            clear hbz
            go_upto_region 11 with (fail)
            obtain ⟨w5, hw5⟩ : ∃ w5, w5 = ((((((((((w4.setCell ⟨wr.heap.size, 0, none⟩ (.int .i64 cl)).setCell ⟨wr.heap.size, 1, none⟩ (.int .i64 sq)).setCell ⟨wr.heap.size, 2, none⟩ (.int .i64 kd)).setCell ⟨wr.heap.size, 3, none⟩ (.string acct)).setCell ⟨wr.heap.size, 4, none⟩ (.string peer)).setCell ⟨wr.heap.size, 5, none⟩ (.int .i64 sum)).setCell ⟨wr.heap.size, 6, none⟩ (.slice Al lg.length cl_)).setCell ⟨wr.heap.size, 7, none⟩ (.int .i64 per)).setCell ⟨wr.heap.size, 8, none⟩ (.int .i64 hold)).setCell ⟨wr.heap.size, 9, none⟩ (.string note)) := ⟨_, rfl⟩
            rw [← hw5] at hfb hb5 ⊢
            have HB4 := Lib.hid HBZ4.out
            have hb6 : Blk w5 wr.heap.size 47 #[.int .i64 cl, .int .i64 sq, .int .i64 kd, .string acct, .string peer, .int .i64 sum, .slice Al lg.length cl_, .int .i64 per, .int .i64 hold, .string note] := by simpa using hb5
            have x0 := hb6.cell 0
            have x1 := hb6.cell 1
            have x2 := hb6.cell 2
            have x3 := hb6.cell 3
            have x4 := hb6.cell 4
            have x5 := hb6.cell 5
            have x6 := hb6.cell 6
            have x7 := hb6.cell 7
            have x8 := hb6.cell 8
            have x9 := hb6.cell 9
            simp only [List.getElem?_toArray, List.getElem?_cons_zero, List.getElem?_cons_succ] at x0 x1 x2 x3 x4 x5 x6 x7 x8 x9
            have HFB := Lib.hid hfb
            have HS5 : Hid (w.heap.size ≤ w5.heap.size) := by
              have h1 := HSZ.out
              have h2 := HF2.out.size
              have h3 := HF4.out.size
              have h4 := HFB.out.size
              rw [World.size_alloc] at h2
              show _ ≤ _
              omega
            clear hw5 hfb hb5 hb6 y0 y1 y2 y3 y4 y5 y6 y7 y8 y9 zy0 zy1 zy2 zy3 zy4 zy5 zy6 zy7 zy8 zy9
            have HO5 := Lib.hid (HO1.out w5 (((HF2.out.mono fun k _ hk => Or.inl hk).trans (HF4.out.mono fun _ _ hk => hk.elim)).trans (HFB.out.mono fun k _ hk => Or.inr (congrArg some (show k = wr.heap.size from hk).symm))))
            go_wp2_with (first | (at_builtin; refine wpList_app _ rfl (.tmp 40) (.tmp 42) 22 22 rfl elO (HO5.out.1.alloc _) rfl (Src.of_new (cs := #[.int .i64 cl, .int .i64 sq, .int .i64 kd, .string acct, .string peer, .int .i64 sum, .slice Al lg.length cl_, .int .i64 per, .int .i64 hold, .string note]) (t := 47) w5.heap.size (heap_alloc_new w5 _) Tryz.underlying22 rfl (by simp [Value.oneCell'])) rfl HBX.out.1 HBX.out.2 ?_; intro v7 w7 ho7 hf7 hn7; obtain ⟨A7, c7, rfl, -, -⟩ := ho7.form; have HO7 := Lib.hid ho7; have HF7 := Lib.hid hf7; have HN7 := Lib.hid hn7; clear ho7 hf7 hn7) | fail)
            go_roundw
            case rel =>
              refine ⟨i + 1, hlt, by go_num, HFRW.out w2 w4 w5 _ w7 HF2.out HF4.out HFB.out ((Fr.refl _ _).alloc _) HF7.out, fun k hk => ?_, ?_⟩
              · rcases HN7.out with h | h
                · rw [h] at hk
                  exact HNEW.out k hk
                · rw [h] at hk
                  injection hk with hk
                  have := HS5.out
                  rw [World.size_alloc] at hk
                  omega
              · rcases HCASE.out with ⟨h1, h2, h3⟩ | ⟨h1, h2⟩
                · refine .inl ⟨L ++ [⟨cl, sq, kd, acct, peer, sum, lg, per, hold, note⟩], lr, by rw [h1], by rw [List.length_append, HLI.out]; rfl, ?_, HRDW.out w2 w4 w5 _ w7 _ _ HR2.out HF4.out HFB.out ((Fr.refl _ _).alloc _) HF7.out, h3, fun x hx => ?_⟩
                  · exact rowT_snoc HO5.out.1 HO5.out.2 ((Fr.refl _ _).alloc _) HOK.out.1 ((HL4.out.fr HFB.out (fun k hk e => by
                      obtain ⟨cur, hc⟩ := HL4.out.blk k hk
                      rw [show k = wr.heap.size from e] at hc
                      exact hc.ne_ HB4.out (by decide) rfl)).alloc _) HOK.out.2 HF7.out HO7.out
                  · rcases List.mem_append.1 hx with hx | hx
                    · exact HKO.out x hx
                    · rw [List.mem_singleton] at hx
                      rw [hx]; exact h2
                · exact .inr ⟨3, A7, L.length + 1, c7, by omega, by omega, by rw [h1]; rfl, h2, rfl, by have := HLI.out; omega⟩
            case measure => simp [intOf]; omega
          · have HTE : Hid ((rtext 1000 l' 0).2.1 ≠ 0) := hte0
            have HNO : Hid (rords N l1 = none) := by
              show _ = _
              rw [hR, if_neg (fun h => hte0 h.1)]
              rfl
            clear hR
            generalize (rtext 1000 l' 0).2.1 = ee at *
            have hei : ((ee : Int) == 0) = false := beq_eq_false_iff_ne.2 (by omega)
            have hen : (ee == 0) = false := beq_eq_false_iff_ne.2 hte0
            have hee : ¬ ((ee : Int) = 0) := by omega
            go_wp2_with fail
            (with_reducible refine HT.out.mono ?_)
            rintro e w2 ⟨rfl, hr2, hf2⟩
            have HF2 := Lib.hid hf2
            have hb6 := HBZ.out.fr HF2.out (fun e => by have : wr.heap.size = p := e; have := HPL.out; omega)
            have x0 := hb6.cell 0
            have x1 := hb6.cell 1
            have x2 := hb6.cell 2
            have x3 := hb6.cell 3
            have x4 := hb6.cell 4
            have x5 := hb6.cell 5
            have x6 := hb6.cell 6
            have x7 := hb6.cell 7
            have x8 := hb6.cell 8
            have x9 := hb6.cell 9
            simp only [List.getElem?_toArray, List.getElem?_cons_zero, List.getElem?_cons_succ] at x0 x1 x2 x3 x4 x5 x6 x7 x8 x9
            have HS5 : Hid (w.heap.size ≤ w2.heap.size) := by
              have h1 := HSZ.out
              have h2 := HF2.out.size
              rw [World.size_alloc] at h2
              show _ ≤ _
              omega
            clear hr2 hf2 hb6
            have HO5 := Lib.hid (HO1.out w2 (HF2.out.mono fun k _ hk => Or.inl hk))
            go_wp2_with (first | (at_builtin; refine wpList_app _ rfl (.tmp 40) (.tmp 42) 22 22 rfl elO (HO5.out.1.alloc _) rfl (Src.of_new (cs := #[.int .i64 0, .int .i64 0, .int .i64 0, .string ⟨#[]⟩, .string ⟨#[]⟩, .int .i64 0, .slice none 0 0, .int .i64 0, .int .i64 0, .string ⟨#[]⟩]) (t := 47) w2.heap.size (heap_alloc_new w2 _) Tryz.underlying22 rfl (by simp [Value.oneCell'])) rfl HBX.out.1 HBX.out.2 ?_; intro v7 w7 ho7 hf7 hn7; obtain ⟨A7, c7, rfl, -, -⟩ := ho7.form; have HO7 := Lib.hid ho7; have HF7 := Lib.hid hf7; have HN7 := Lib.hid hn7; clear ho7 hf7 hn7) | fail)
            go_roundw
            case rel =>
              refine ⟨i + 1, hlt, by go_num, HFRW.out w2 w2 w2 _ w7 HF2.out (Fr.refl _ _) (Fr.refl _ _) ((Fr.refl _ _).alloc _) HF7.out, fun k hk => ?_, ?_⟩
              · rcases HN7.out with h | h
                · rw [h] at hk
                  exact HNEW.out k hk
                · rw [h] at hk
                  injection hk with hk
                  have := HS5.out
                  rw [World.size_alloc] at hk
                  omega
              · exact .inr ⟨ee, A7, L.length + 1, c7, HTE.out, by omega, rfl, HNO.out, rfl, by have := HLI.out; omega⟩
            case measure => simp [intOf]; omega
        · obtain rfl : i = N := by omega
          have hNN : ¬ ((i : Int) < (i : Int)) := by omega
          have HRET : Hid (RsRet w p q most l (.returned (.tuple #[.slice SVA L.length SVc, .int .i64 0])) wr) := by
            refine ⟨SVA, L.length, SVc, 0, rfl, hfr, by omega, .inl ⟨L, l', ?_, rfl, rfl, hrow, hrd, hok⟩⟩
            rw [HRS.out, hR, Nat.sub_self]
            simp [rords]
          clear hrow hrd hR hok hfr hnew hLi
          go_wp2
          go_ret2
          exact HRET.out
      · have hki : ((k : Int) == 0) = false := beq_eq_false_iff_ne.2 (by omega)
        have hkn : (k == 0) = false := beq_eq_false_iff_ne.2 hk0
        have hke : ¬ ((k : Int) = 0) := by omega
        have HRET : Hid (RsRet w p q most l (.returned (.tuple #[.slice A n c, .int .i64 (k : Int)])) wr) := ⟨A, n, c, k, rfl, hfr, by omega, .inr ⟨by rw [HRS.out, hR], hk0, hk10⟩⟩
        clear hfr hnew hR
        by_cases hlt : i < N
        · have hlti : (i : Int) < (N : Int) := by omega
          go_wp2
          go_ret2
          exact HRET.out
        · have hlti : ¬ (i : Int) < (N : Int) := by omega
          go_wp2
          go_ret2
          exact HRET.out
  · rw [if_neg he] at HRS
    have hv0 : (rrange 1 most l 0).1 = 0 := rrange_zero 1 most l 0 he
    rw [hv0] at HR
    have hel : (rrange 1 most l 0).2.1 ≤ 10 := by omega
    clear hv0 hre h
    generalize (rrange 1 most l 0).2.1 = ee at *
    generalize (rrange 1 most l 0).2.2 = l1 at *
    have HNE : Hid (ee ≠ 0) := he
    have hei : ((ee : Int) == 0) = false := beq_eq_false_iff_ne.2 (by omega)
    have hen : (ee == 0) = false := beq_eq_false_iff_ne.2 he
    go_enter Tryz.func49, Tryz.ntmps49
    go_wp2_with fail
    (with_reducible refine HR.out.mono ?_)
    rintro e w1 ⟨rfl, hr1, hf1⟩
    have HF1 := Lib.hid hf1
    clear hr1 hf1 HR
    go_wp2
    refine wp_loop_rounds 1 ?_
    rw [rounds_succ]
    go_wp2
    go_ret2
    exact ⟨none, 0, 0, ee, rfl, HF1.out, by omega, .inr ⟨HRS.out, HNE.out, hel⟩⟩
end Go.Proofs.YtnphncemghfkbaaGreat
