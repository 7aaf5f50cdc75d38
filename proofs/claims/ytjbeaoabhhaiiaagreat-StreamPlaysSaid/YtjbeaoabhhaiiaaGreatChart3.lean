/- Contracts of package chart: what is done with one account. -/
import Derived.Test.YtjbeaoabhhaiiaaGreatChart2
import Derived.Deep.RegionHeld3
import Derived.Deep.DrawnRows
namespace Go.Proofs.YtjbeaoabhhaiiaaGreat
open Go.RowKit Go.My Go.Maps
set_option linter.unusedSimpArgs false
set_option linter.unusedVariables false
attribute [local go_sem ↓] Go.wp_at_zero Go.wp_at_succ

/-- an account lies at q -/
def AcB (w : World) (q : Nat) (a : Ac) : Prop := Blk w q 80 #[.string ⟨a.name.toArray⟩, .int .i64 a.hv, .int .i64 a.st, .int .i64 a.lim]

/-- what comes of a deed with one account -/
def ChRet (p m : Nat) (S : List Ac) (nm : List UInt8) (Fd : Nat → Prop) (R : Ac → Int → Ac → World → Prop) (w : World) (e : Ending) (w' : World) : Prop :=
  (getA S nm = none ∧ e = .returned (.int .i64 6) ∧ ChS w' p m S ∧ Fr No w w') ∨
  ∃ a n a', getA S nm = some a ∧ e = .returned (.int .i64 n) ∧ a'.name = nm ∧ ChS w' p m (if n = 0 then putA a' S else S) ∧ Fr (fun i => i = m ∨ Fd i) w w' ∧ R a n a' w'

set_option maxRecDepth 100000 in
set_option maxHeartbeats 2000000 in
theorem change_any (k : FuncId) (hk : ∀ args W, (callFunc k args).run Tryz.prog W = .ok (.enter k args) W) (c : Value) (p m : Nat) (S : List Ac) (s : ByteArray) (w : World) (h : ChS w p m S) (hs : s.size ≤ maxLen) (hS : S.length ≤ 12) (Fd : Nat → Prop) (R : Ac → Int → Ac → World → Prop)
    (hFp : ¬ Fd p) (hFm : ¬ Fd m) (hFl : ∀ i, Fd i → i < w.heap.size) (hR : ∀ a n a' W W', R a n a' W → Fr (At1 m) W W' → R a n a' W')
    (hdo : ∀ a W q, getA S s.data.toList = some a → Fr No w W → w.heap.size ≤ q → AcB W q a → Calls Tryz.prog k #[.pointer (some ⟨q, 0, none⟩), c] W fun e W' => ∃ n a', e = .returned (.int .i64 n) ∧ a'.name = a.name ∧ AcB W' q a' ∧ Fr (fun i => i = q ∨ Fd i) W W' ∧ R a n a' W') :
    Calls Tryz.prog 155 #[.pointer (some ⟨p, 0, none⟩), .string s, .func (.func k) #[] #[c]] w (ChRet p m S s.data.toList Fd R w) := by
  have HS := Lib.hid hs
  have HC := Lib.hid h
  have HNE := Lib.hid h.ne_
  have HR := Lib.hid hR
  have HDO := Lib.hid hdo
  have hpl := h.1.lt
  have hml := h.2.lt
  have c0 := h.1.cell 0
  simp only [List.getElem?_toArray, List.getElem?_cons_zero] at c0
  clear hs hR hdo
  cases hg : getA S s.data.toList with
  | none =>
    have hlk := h.2.look_none s HS.out hg
    have HG := Lib.hid hg
    clear h hg
    go_enter Tryz.func155, Tryz.ntmps155
    go_wp2
    go_ret
    exact .inl ⟨HG.out, rfl, HC.out.no ((Fr.refl _ _).alloc _), (Fr.refl _ _).alloc _⟩
  | some a =>
    have hlk := h.2.look_some s HS.out a hg
    have HG := Lib.hid hg
    have HNM := Lib.hid (getA_some hg).2
    clear h hg
    go_enter Tryz.func155, Tryz.ntmps155
    go_wp2_with fail
    refine (HDO.out a _ _ HG.out ((Fr.refl No w).alloc _) (Nat.le_refl _) (Blk.new _ _ _)).mono ?_
    rintro e w2 ⟨n, a', rfl, hnm, hq2, hf2, hR2⟩
    have hw02 : Fr (fun i => Fd i) w w2 := ((Fr.refl _ w).alloc _).trans' hf2 fun i hi hlt => by
      rcases hi with rfl | hi
      · omega
      · exact hi
    have hC2 : ChS w2 p m S := HC.out.fr hw02 hFp hFm
    have hnm2 : a'.name = s.data.toList := hnm.trans HNM.out
    have hql : w.heap.size < w2.heap.size := hq2.lt
    have hqm : ¬ m = w.heap.size := by omega
    have hqp : ¬ p = w.heap.size := by omega
    by_cases hn : n = 0
    · subst hn
      obtain ⟨nm', h', st', l'⟩ := a'
      simp only at hnm2
      subst hnm2
      have hC3 : ChS w2.drew p m S := hC2.no (Fr.refl _ _).drew
      obtain ⟨w3, hmu, hm3, hf3⟩ := hC3.2.put ⟨s.data.toList, h', st', l'⟩ (by have h := HS.out; simpa using h) (by unfold maxLen; omega)
      have hmu' : (Instr.mapUpdate 133 (.map (some m)) (.string s) (.agg #[.string s, .int .i64 h', .int .i64 st', .int .i64 l'])).run Tryz.prog w2.drew = .ok () w3 := hmu
      have p0 : w2.cell? ⟨p, 0, none⟩ = some (.map (some m)) := hC2.1.cell 0
      have q0 : w2.cell? ⟨w.heap.size, 0, none⟩ = some (.string s) := hq2.cell 0
      have q1 : w2.cell? ⟨w.heap.size, 1, none⟩ = some (.int .i64 h') := hq2.cell 1
      have q2 : w2.cell? ⟨w.heap.size, 2, none⟩ = some (.int .i64 st') := hq2.cell 2
      have q3 : w2.cell? ⟨w.heap.size, 3, none⟩ = some (.int .i64 l') := hq2.cell 3
      have p0' : w3.cell? ⟨p, 0, none⟩ = some (.map (some m)) := ((hC3.1).fr hf3 (fun h => HNE.out h.symm)).cell 0
      have hq3 : Blk w3 w.heap.size 80 #[.string s, .int .i64 h', .int .i64 st', .int .i64 l'] := (show Blk w2.drew w.heap.size 80 #[.string s, .int .i64 h', .int .i64 st', .int .i64 l'] from hq2).fr hf3 (fun h => hqm h.symm)
      have r0 : w3.cell? ⟨w.heap.size, 0, none⟩ = some (.string s) := hq3.cell 0
      have r1 : w3.cell? ⟨w.heap.size, 1, none⟩ = some (.int .i64 h') := hq3.cell 1
      have r2 : w3.cell? ⟨w.heap.size, 2, none⟩ = some (.int .i64 st') := hq3.cell 2
      have r3 : w3.cell? ⟨w.heap.size, 3, none⟩ = some (.int .i64 l') := hq3.cell 3
      have HEND : Hid (ChRet p m S s.data.toList Fd R w (.returned (.int .i64 0)) w3) := .inr ⟨a, 0, ⟨s.data.toList, h', st', l'⟩, HG.out, rfl, rfl, ⟨hC3.1.fr hf3 (fun h => HNE.out h.symm), by rw [if_pos rfl]; exact hm3⟩, by
        have h1 : Fr (fun i => i = m ∨ Fd i) w w2.drew := (hw02.mono fun _ _ h => .inr h).drew
        exact h1.trans (hf3.mono fun _ _ h => .inl h), HR.out _ _ _ _ _ hR2 ((Fr.refl (At1 m) w2).drew.trans hf3)⟩
      clear hmu hm3 hf3 hq3 hC3 hC2 hw02 hf2 hR2 hnm c0 hlk
      go_wp2_with fail
      go_region_held3 (fun W => W.cell? ⟨p, 0, none⟩ = some (.map (some m)) ∧ W.cell? ⟨w.heap.size, 0, none⟩ = some (.string s) ∧ W.cell? ⟨w.heap.size, 1, none⟩ = some (.int .i64 h') ∧ W.cell? ⟨w.heap.size, 2, none⟩ = some (.int .i64 st') ∧ W.cell? ⟨w.heap.size, 3, none⟩ = some (.int .i64 l'))
        (first | exact ⟨p0, q0, q1, q2, q3⟩ | exact ⟨p0', r0, r1, r2, r3⟩) (fail)
      go_wp2
      go_ret
      exact HEND.out
    · have hb : (n != 0) = true := by rw [bne_iff_ne]; exact hn
      have HEND : Hid (ChRet p m S s.data.toList Fd R w (.returned (.int .i64 n)) w2) := .inr ⟨a, n, a', HG.out, rfl, hnm2, by rw [if_neg hn]; exact hC2, hw02.mono fun _ _ h => .inr h, hR2⟩
      clear hn c0 hlk
      go_wp2
      go_ret
      exact HEND.out
end Go.Proofs.YtjbeaoabhhaiiaaGreat
