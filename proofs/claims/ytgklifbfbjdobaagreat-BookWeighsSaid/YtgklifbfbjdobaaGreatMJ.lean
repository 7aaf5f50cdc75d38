/- The document's own Name. The document's own chart, a list in order: its state in memory, and the mathematics of it. The document's own chart: Ahead, At, Free. The document's own chart: Free, Give, Aside. What all accounts have together: of the chart, and of the document's own. The document's own chart: Get, Open. -/
import Derived.Test.YtgklifbfbjdobaaGreatChart
import Derived.Sort.Walk0
import Derived.Deep.DeepCutAuto
import Derived.Deep.QuietTactic
import Derived.BigQuiet
import Derived.Deep.DrawnRows
import Derived.Test.YtgklifbfbjdobaaGreatMC
import Derived.Test.YtgklifbfbjdobaaGreatMCR
import Derived.Maps.RangeWalk
import Derived.StringKeys
import Derived.Deep.RegionHeld3
import Derived.Deep.CutBlock
import Derived.Deep.RegionLaw
namespace Go.Proofs.YtgklifbfbjdobaaGreat
open Go.RowKit Go.My Go.Maps
set_option linter.unusedSimpArgs false
set_option linter.unusedVariables false
attribute [local go_sem ↓] Go.wp_at_zero Go.wp_at_succ

def RNmRel (s : ByteArray) (iv : Value) : Prop := ∃ k : Nat, k ≤ s.size ∧ iv = .int .i64 k ∧ (s.data.toList.take k).all okc = true
theorem before_take : ∀ (a b : List UInt8) (k : Nat), a.take k = b.take k → k ≤ a.length → k ≤ b.length → bytesBefore a b = bytesBefore (a.drop k) (b.drop k)
  | a, b, 0, _, _, _ => rfl
  | [], _, k + 1, _, h, _ => by simp at h
  | _, [], k + 1, _, _, h => by simp at h
  | x :: a, y :: b, k + 1, h, ha, hb => by
    simp only [List.take_succ_cons, List.cons.injEq] at h
    obtain ⟨rfl, h⟩ := h
    rw [List.drop_succ_cons, List.drop_succ_cons, ← before_take a b k h (by simpa using ha) (by simpa using hb)]
    simp [bytesBefore]
theorem before_cons (x y : UInt8) (a b : List UInt8) (h : x ≠ y) : bytesBefore (x :: a) (y :: b) = decide ((x.toNat : Int) < (y.toNat : Int)) := by
  simp only [bytesBefore]
  rw [beq_eq_false_iff_ne.2 h]
  simp [UInt8.lt_iff_toNat_lt]
theorem before_end (a b : List UInt8) (h : a = [] ∨ b = []) : bytesBefore a b = decide ((a.length : Int) < (b.length : Int)) := by
  rcases h with rfl | rfl
  · cases b <;> simp [bytesBefore] <;> omega
  · cases a <;> simp [bytesBefore] <;> omega

def AhRel (s t : ByteArray) (w : World) (iv : Value) (wr : World) : Prop := ∃ k j : Nat, k ≤ s.size ∧ k ≤ t.size ∧ iv = .int .i64 k ∧ s.data.toList.take k = t.data.toList.take k ∧ wr = w.drewN j
end Go.Proofs.YtgklifbfbjdobaaGreat

namespace Go.Proofs.YtgklifbfbjdobaaGreat
open Go.RowKit Go.My Go.Maps
set_option linter.unusedSimpArgs false
set_option linter.unusedVariables false
attribute [local go_sem ↓] Go.wp_at_zero Go.wp_at_succ

/-! ### lists -/

theorem key_before (a b : Ac) : a.key.before b.key = bytesBefore a.name b.name := rfl
/-- an account that is there is put where it stands -/
theorem put_set : ∀ (S : List Ac) (k : Nat) (hk : k < S.length) (b : Ac), Rise S → S[k].name = b.name → putA b S = S.set k b
  | c :: r, 0, _, b, hr, hn => by
    obtain ⟨h1, h2⟩ := List.pairwise_cons.1 hr
    simp only [List.getElem_cons_zero] at hn
    have hkey : b.key = c.key := by unfold Ac.key; rw [hn]
    unfold putA
    have hf : (c :: r).filter (fun d => !d.key.sameKey b.key) = r := by
      rw [List.filter_cons, if_neg (by
        show ¬ (!(c.name == b.name)) = true
        rw [hn]; simp), List.filter_eq_self.2]
      intro d hd
      show (!(d.name == b.name)) = true
      have := h1 d hd
      rw [← hn]
      cases hq : d.name == c.name
      · rfl
      · rw [key_before, beq_iff_eq.1 hq, WideAt.bytes_irrefl] at this
        cases this
    rw [hf]
    cases r with
    | nil => rfl
    | cons d t =>
      have := h1 d List.mem_cons_self
      unfold insA
      rw [if_pos (by rw [hkey]; exact this)]
      rfl
  | c :: r, k + 1, hk, b, hr, hn => by
    obtain ⟨h1, h2⟩ := List.pairwise_cons.1 hr
    simp only [List.getElem_cons_succ] at hn
    have hk' : k < r.length := by simpa using hk
    have hcb := h1 _ (List.getElem_mem hk')
    have hcb' : bytesBefore c.name b.name = true := by rw [← hn]; exact hcb
    have hne : c.name ≠ b.name := fun h => by rw [h, WideAt.bytes_irrefl] at hcb'; cases hcb'
    have hnb : bytesBefore b.name c.name = false := by
      cases hq : bytesBefore b.name c.name
      · rfl
      · have := WideShapes.bytes_trans _ _ _ hcb' hq
        rw [WideAt.bytes_irrefl] at this
        cases this
    have ih := put_set r k hk' b h2 hn
    unfold putA at ih ⊢
    rw [List.filter_cons, if_pos (by
      show (!(c.name == b.name)) = true
      simp [hne])]
    unfold insA
    rw [if_neg (by rw [key_before, hnb]; decide), ih]
    rfl
/-- where a new account is put -/
theorem ins_at : ∀ (S : List Ac) (a : Ac) (k : Nat), k ≤ S.length → Rise S → (∀ i (h : i < S.length), k ≤ i → bytesBefore a.name S[i].name = true) → (∀ (h : 0 < k) (h2 : k - 1 < S.length), bytesBefore a.name S[k - 1].name = false) →
    insA a S = S.take k ++ a :: S.drop k
  | [], a, k, hk, _, _, _ => by
    have : k = 0 := by simpa using hk
    subst this
    rfl
  | c :: r, a, 0, _, hr, h1, _ => by
    have := h1 0 (by simp) (Nat.le_refl _)
    unfold insA
    rw [if_pos (by rw [key_before]; exact this)]
    rfl
  | c :: r, a, k + 1, hk, hr, h1, h2 => by
    obtain ⟨g1, g2⟩ := List.pairwise_cons.1 hr
    have hk' : k ≤ r.length := by simpa using hk
    have hc : bytesBefore a.name c.name = false := by
      cases k with
      | zero => exact h2 (by omega) (by simp)
      | succ j =>
        cases hq : bytesBefore a.name c.name
        · rfl
        · have h3 := h2 (by omega) (by simp; omega)
          have hj : j < r.length := by omega
          have h4 : bytesBefore c.name r[j].name = true := g1 _ (List.getElem_mem hj)
          have h5 := WideShapes.bytes_trans _ _ _ hq h4
          simp only [Nat.add_sub_cancel, List.getElem_cons_succ] at h3
          rw [h5] at h3
          cases h3
    have ih := ins_at r a k hk' g2 (fun i h hki => by have := h1 (i + 1) (by simp; omega) (by omega); simpa using this) (fun h h3 => by
      have := h2 (by omega) (by simp; omega)
      cases k with
      | zero => omega
      | succ j => simpa using this)
    unfold insA
    rw [if_neg (by rw [key_before, hc]; decide), ih]
    rfl
theorem put_ins {S : List Ac} {a : Ac} (h : getA S a.name = none) : putA a S = insA a S := by
  unfold putA
  congr 1
  refine List.filter_eq_self.2 fun b hb => ?_
  show (!(b.name == a.name)) = true
  have := getA_none h b hb
  simp [this]

/-- a cell of an account is another one -/
theorem acs_set : ∀ (S : List Ac) (k j : Nat) (hk : k < S.length) (b : Ac) (u : Value), j < 4 → acC b = (acC S[k]).set j u → (acs S).set (k * 4 + j) u = acs (S.set k b)
  | c :: r, 0, j, _, b, u, hj, h => by
    show (acC c ++ acs r).set (0 * 4 + j) u = acC b ++ acs r
    rw [List.set_append_left _ _ (by simp [acC]; omega), Nat.zero_mul, Nat.zero_add]
    simp only [List.getElem_cons_zero] at h
    rw [h]
  | c :: r, k + 1, j, hk, b, u, hj, h => by
    show (acC c ++ acs r).set ((k + 1) * 4 + j) u = acC c ++ acs (r.set k b)
    rw [List.set_append_right _ _ (by simp [acC]; omega)]
    congr 1
    rw [← acs_set r k j (by simpa using hk) b u hj (by simpa using h)]
    congr 1
    simp [acC]
    omega

/-! ### memory -/

theorem own_set {w : World} {e : TypeId} {size n g c : Nat} {xs : List Value} (h : Own w e size (.slice (some ⟨g, 0, none⟩) n c) n xs) (j : Nat) (hj : j < n * size) (hn : 0 < n) (u : Value) :
    Own (w.setCell ⟨g, j, none⟩ u) e size (.slice (some ⟨g, 0, none⟩) n c) n (xs.set j u) ∧ (∃ y, w.cell? ⟨g, j, none⟩ = some y) ∧ w.frozen? ⟨g, j, none⟩ = false := by
  have hl := h.1
  obtain ⟨g', c', cur, hv, hg, h1, h2, h3, h4⟩ := h.formPos hn
  injection hv with hA _ hc
  injection hA with hA
  injection hA with hg'
  subst hg' hc
  have hcur : j < cur.size := by
    have : n * size ≤ c * size := Nat.mul_le_mul_right _ h1
    omega
  refine ⟨⟨by simpa using hl, .inr ⟨g, c, cur.setIfInBounds j u, rfl, hg.set_ j u, h1, h2, by simpa using h3, ?_⟩⟩, ⟨cur[j], by rw [hg.cell]; simp [hcur]⟩, hg.frozen j⟩
  rw [← h4]
  simp only [Array.toList_setIfInBounds]
  rw [List.take_set]

section
variable {w w' : World} {q : Nat} {S : List Ac}
end

/-! ### Name, Ahead, At, Free -/

end Go.Proofs.YtgklifbfbjdobaaGreat

namespace Go.Proofs.YtgklifbfbjdobaaGreat
open Go.RowKit Go.My Go.Maps
set_option linter.unusedSimpArgs false
set_option linter.unusedVariables false
attribute [local go_sem ↓] Go.wp_at_zero Go.wp_at_succ

/-- where an account stands -/
def AtP (S : List Ac) (nm : List UInt8) (z : Int) : Prop := (getA S nm = none ∧ z = -1) ∨ ∃ (k : Nat) (h : k < S.length), z = k ∧ S[k].name = nm ∧ getA S nm = some S[k]
def AtRel (S : List Ac) (nm : List UInt8) (iv : Value) : Prop := ∃ k : Nat, k ≤ S.length ∧ iv = .int .i64 k ∧ ∀ a ∈ S.take k, a.name ≠ nm
def AtRet (S : List Ac) (nm : List UInt8) (w : World) (e : Ending) (w' : World) : Prop := ∃ z, e = .returned (.int .i64 z) ∧ AtP S nm z ∧ w = w'
theorem find_take (S : List Ac) (nm : List UInt8) (k : Nat) (hk : k < S.length) (h : ∀ a ∈ S.take k, a.name ≠ nm) (he : S[k].name = nm) : getA S nm = some S[k] := by
  unfold getA
  rw [List.find?_eq_some_iff_append]
  refine ⟨by simp [he], S.take k, S.drop (k + 1), by simp, fun a ha => by simp [h a ha]⟩
end Go.Proofs.YtgklifbfbjdobaaGreat

namespace Go.Proofs.YtgklifbfbjdobaaGreat
open Go.RowKit Go.My Go.Maps
set_option linter.unusedSimpArgs false
set_option linter.unusedVariables false
attribute [local go_sem ↓] Go.wp_at_zero Go.wp_at_succ

theorem total2 (a b : Int) : total [a, b] = a + b := by simp [total_cons, total_nil]
theorem act_none {S : List Ac} {nm : List UInt8} (f : Ac → Int) (g : Ac → Ac) (h : getA S nm = none) : actE f S nm = 6 ∧ actS f g S nm = S := by
  unfold actE actS
  rw [h]
  exact ⟨rfl, rfl⟩
theorem act_some {S : List Ac} {nm : List UInt8} (f : Ac → Int) (g : Ac → Ac) {a : Ac} (h : getA S nm = some a) : actE f S nm = f a ∧ actS f g S nm = if f a = 0 then putA (g a) S else S := by
  unfold actE actS
  rw [h]
  exact ⟨rfl, rfl⟩

theorem acs_ones (S : List Ac) : ∀ y ∈ acs S, y.oneCell' = true := by
  intro y hy
  unfold acs at hy
  rw [List.mem_flatMap] at hy
  obtain ⟨a, _, ha⟩ := hy
  simp only [acC, List.mem_cons, List.not_mem_nil, or_false] at ha
  rcases ha with rfl | rfl | rfl | rfl <;> rfl
end Go.Proofs.YtgklifbfbjdobaaGreat

namespace Go.Proofs.YtgklifbfbjdobaaGreat
open Go.RowKit Go.My Go.Maps
set_option linter.unusedSimpArgs false
set_option linter.unusedVariables false
attribute [local go_sem ↓] Go.wp_at_zero Go.wp_at_succ

theorem elI : El Tryz.prog 150 2 1 8 := ⟨Tryz.underlying150, by
  have h : (Tryz.prog.info? 2).map (fun i => (i.zero, i.size, i.bytes)) = some (some (.int .i64 0), 1, 8) := by kernel_rfl
  obtain ⟨i, hi, hz, hs, hb⟩ := info_parts h
  exact ⟨i, _, hi, hz, hs, hb, rfl⟩, by omega⟩

/-- what accounts have -/
def hvs (S : List Ac) : List Int := S.map Ac.hv
theorem hvs_length (S : List Ac) : (hvs S).length = S.length := by simp [hvs]
theorem hvs_in {S : List Ac} (h : OkS S) : ∀ x ∈ hvs S, In64 x := by
  intro x hx
  unfold hvs at hx
  obtain ⟨a, ha, rfl⟩ := List.mem_map.1 hx
  exact (h a ha).1
theorem hvs_take {S : List Ac} {k : Nat} (hk : k < S.length) : hvs (S.take (k + 1)) = hvs (S.take k) ++ [S[k].hv] := by
  unfold hvs
  rw [List.take_succ_eq_append_getElem hk, List.map_append]
  rfl

/-! ### the chart's -/

/-- the accounts that are still to come -/
def rem (left : Lit → Bool) (S : List Ac) : List Ac := S.filter fun a => left a.key
theorem rem_all (S : List Ac) : rem (Maps.has (dOf S)) S = S := by
  unfold rem
  refine List.filter_eq_self.2 fun a ha => ?_
  show Maps.has (dOf S) (.string a.name) = true
  rw [has_dOf]
  unfold getA
  rw [List.find?_isSome]
  exact ⟨a, ha, by simp⟩
theorem rem_step (left : Lit → Bool) : ∀ (S : List Ac) (a : Ac), Rise S → a ∈ S → left a.key = true →
    (rem left S).length = (rem (fun z => left z && !z.sameKey a.key) S).length + 1 ∧ total (hvs (rem left S)) = a.hv + total (hvs (rem (fun z => left z && !z.sameKey a.key) S))
  | c :: r, a, hr, ha, hl => by
    obtain ⟨h1, h2⟩ := List.pairwise_cons.1 hr
    rcases List.mem_cons.1 ha with rfl | ha
    · have hrest : rem (fun z => left z && !z.sameKey a.key) r = rem left r := by
        unfold rem
        refine List.filter_congr fun b hb => ?_
        have hne : b.key.sameKey a.key = false := by
          show (b.name == a.name) = false
          rw [beq_eq_false_iff_ne]
          intro h
          have := h1 b hb
          rw [show a.key = b.key by unfold Ac.key; rw [h], WideShapes.before_irrefl] at this
          cases this
        show (left b.key && !b.key.sameKey a.key) = left b.key
        rw [hne]
        simp
      have e1 : rem left (a :: r) = a :: rem left r := by unfold rem; rw [List.filter_cons, if_pos hl]
      have e2 : rem (fun z => left z && !z.sameKey a.key) (a :: r) = rem left r := by
        rw [← hrest]
        unfold rem
        rw [List.filter_cons, if_neg]
        show ¬ (left a.key && !(a.name == a.name)) = true
        simp
      rw [e1, e2]
      exact ⟨rfl, rfl⟩
    · obtain ⟨g1, g2⟩ := rem_step left r a h2 ha hl
      have hne : c.key.sameKey a.key = false := by
        show (c.name == a.name) = false
        rw [beq_eq_false_iff_ne]
        intro h
        have := h1 a ha
        rw [show c.key = a.key by unfold Ac.key; rw [h], WideShapes.before_irrefl] at this
        cases this
      unfold rem at g1 g2 ⊢
      rw [List.filter_cons, List.filter_cons]
      simp only [hne, Bool.not_false, Bool.and_true] at g1 g2 ⊢
      by_cases hc : left c.key = true
      · rw [if_pos hc, if_pos hc]
        refine ⟨by simp only [List.length_cons]; omega, ?_⟩
        unfold hvs at g2 ⊢
        simp only [List.map_cons, total_cons]
        omega
      · rw [if_neg hc, if_neg hc]
        exact ⟨g1, g2⟩

theorem ranges_fr {F : Nat → Prop} {P : Program} {k : TypeId} {R : Value → Option (DataW Unit × List MemPlace)} {b r n : Nat} {D : DataW Unit} {left : Lit → Bool} {cnt : Nat} {w w' : World} (h : w.ranges P k R b r n D left cnt) (hf : Fr F w w') (hb : ¬ F b) (hr : ¬ F r) : w'.ranges P k R b r n D left cnt := by
  obtain ⟨es, clock, since, seen, c0, h1, h2, h3, h4, h5, h6⟩ := h
  exact ⟨es, clock, since, seen, c0, (hf.block b (Array.getElem?_eq_some_iff.1 h1).1 hb).trans h1, h2, h3, h4, (hf.block r (Array.getElem?_eq_some_iff.1 h5).1 hr).trans h5, h6⟩
theorem fr_grown {w w' : World} {r : Nat} (h : w.grownBy w' (some r)) : Fr (At1 r) w w' := ⟨h.os, h.tape, h.output, h.size, fun k hk hn => h.block k hk (fun e => hn (by injection e))⟩
theorem fr_grown0 {w w' : World} (h : w.grownBy w' none) : Fr No w w' := ⟨h.os, h.tape, h.output, h.size, fun k hk _ => h.block k hk (fun e => by cases e)⟩

theorem ranges_ne {P : Program} {k : TypeId} {R : Value → Option (DataW Unit × List MemPlace)} {b r n g : Nat} {D : DataW Unit} {left : Lit → Bool} {cnt : Nat} {w : World} {t : TypeId} {cs : Array Value} (h : w.ranges P k R b r n D left cnt) (hg : Blk w g t cs) (he : r = g) : False := by
  subst he
  obtain ⟨es, clock, since, seen, c0, h1, h2, h3, h4, h5, h6⟩ := h
  unfold Blk at hg
  rw [h5] at hg
  cases hg
theorem own_ne_range {P : Program} {k : TypeId} {R : Value → Option (DataW Unit × List MemPlace)} {b r n size n2 : Nat} {D : DataW Unit} {left : Lit → Bool} {cnt : Nat} {w : World} {t : TypeId} {v : Value} {xs : List Value} (ho : Own w t size v n2 xs) (h : w.ranges P k R b r n D left cnt) : ∀ k, v.ownBlock = some k → ¬ At1 r k := fun k hk hk2 => by
  obtain ⟨cur, hcur⟩ := ho.blk k hk
  have h2 : r = k := hk2.symm
  exact ranges_ne h hcur h2
theorem own_ne_map {P : Program} {k : TypeId} {R : Value → Option (DataW Unit × List MemPlace)} {b n size n2 : Nat} {D : DataW Unit} {w : World} {t : TypeId} {v : Value} {xs : List Value} (ho : Own w t size v n2 xs) (h : w.ownsMap P k R b n D) : ∀ k, v.ownBlock = some k → ¬ b = k := fun k hk hk2 => by
  obtain ⟨cur, hcur⟩ := ho.blk k hk
  subst hk2
  obtain ⟨es, clock, hb, _⟩ := h
  unfold Blk at hcur
  rw [hb] at hcur
  cases hcur
def TotCRel (w : World) (m r : Nat) (S : List Ac) (lv : Value) (wr : World) : Prop :=
  ∃ (left : Lit → Bool) (cnt : Nat) (L : List Int), wr.ranges Tryz.prog 9 acR m r S.length (dOf S) left cnt ∧ Own wr 2 1 lv L.length (is_ L) ∧ Fr No w wr ∧ Newer w.heap.size none lv.ownBlock ∧ w.heap.size ≤ r ∧
    L.length + (rem left S).length = S.length ∧ total L + total (hvs (rem left S)) = total (hvs S) ∧ ∀ x ∈ L, In64 x

theorem tot_done {left : Lit → Bool} {S : List Ac} {L : List Int} (hl0 : ∀ kl, left kl = false) (hlen : L.length + (rem left S).length = S.length) (htot : total L + total (hvs (rem left S)) = total (hvs S)) : L.length = S.length ∧ total L = total (hvs S) := by
  have hrem : rem left S = [] := by
    unfold rem
    refine List.filter_eq_nil_iff.2 fun a _ => ?_
    rw [hl0]
    decide
  rw [hrem] at hlen htot
  exact ⟨by simpa using hlen, by simpa [hvs, total_nil] using htot⟩
theorem tot_more {left : Lit → Bool} {S : List Ac} {L : List Int} {x : ByteArray} {c : Ac} {kl : Lit} {y : DataW Unit × List MemPlace} (hr : Rise S) (ho : OkS S) (hkey : keyOf Tryz.prog 9 (.string x) = some kl) (hlk : left kl = true) (hv : acR c.val = some y)
    (hat : ∀ zd, (dOf S).atKey kl zd = y.1) (hlen : L.length + (rem left S).length = S.length) (htot : total L + total (hvs (rem left S)) = total (hvs S)) :
    L.length + 1 + (rem (fun z => left z && !z.sameKey kl) S).length = S.length ∧ total L + c.hv + total (hvs (rem (fun z => left z && !z.sameKey kl) S)) = total (hvs S) ∧ In64 c.hv := by
  obtain ⟨s, hxs, hkl, _⟩ := Go.WideMaps.string_of_keyOf Tryz.underlying9 hkey
  injection hxs with hxs
  subst hxs
  rw [acR_val] at hv
  injection hv with hv
  have hmem : c ∈ S ∧ c.key = kl := by
    have h1 := hat .nil
    rw [hkl, at_dOf] at h1
    cases hg : getA S x.data.toList with
    | none =>
      rw [hg] at h1
      have h2 := hat (.lit (.int .i64 0))
      rw [hkl, at_dOf, hg] at h2
      simp only at h1 h2
      rw [← h1] at h2
      cases h2
    | some a =>
      rw [hg] at h1
      simp only at h1
      rw [← hv] at h1
      have := Ac.dat_inj h1
      subst this
      refine ⟨(getA_some hg).1, ?_⟩
      unfold Ac.key
      rw [(getA_some hg).2, hkl]
  obtain ⟨hcS, rfl⟩ := hmem
  obtain ⟨e1, e2⟩ := rem_step left S c hr hcS hlk
  have hci := (ho c hcS).1
  rw [e1] at hlen
  rw [e2] at htot
  exact ⟨by omega, by omega, hci⟩

end Go.Proofs.YtgklifbfbjdobaaGreat

namespace Go.Proofs.YtgklifbfbjdobaaGreat
open Go.RowKit Go.My Go.Maps
set_option linter.unusedSimpArgs false
set_option linter.unusedVariables false
attribute [local go_sem ↓] Go.wp_at_zero Go.wp_at_succ

def GotR (S : List Ac) (nm : List UInt8) (w : World) (e : Ending) (w' : World) : Prop := e = .returned (.tuple #[(getV S nm).val, .int .i64 (if (getA S nm).isSome then 0 else 6)]) ∧ Fr No w w'

theorem acs_take (S : List Ac) (k : Nat) (hk : k ≤ S.length) : (acs S).take (k * 4) = acs (S.take k) := by
  have h : acs S = acs (S.take k) ++ acs (S.drop k) := by rw [← acs_append, List.take_append_drop]
  rw [h]
  exact List.take_left' (by rw [acs_length, List.length_take, Nat.min_eq_left hk])
theorem acs_drop (S : List Ac) (k : Nat) (hk : k ≤ S.length) : (acs S).drop (k * 4) = acs (S.drop k) := by
  have h : acs S = acs (S.take k) ++ acs (S.drop k) := by rw [← acs_append, List.take_append_drop]
  rw [h]
  exact List.drop_left' (by rw [acs_length, List.length_take, Nat.min_eq_left hk])
theorem rd_no {a b : World} {F : Nat → Prop} {size n : Nat} {A : Option Addr} {xs : List Value} (h : Rd a F size A n xs) (hs : 0 < size) (hf : Fr No a b) : Rd b F size A n xs := h.fr hs hf fun _ _ _ h => h

def OpRel (S : List Ac) (nm : List UInt8) (w : World) (kv : Value) (wr : World) : Prop :=
  ∃ k : Nat, k ≤ S.length ∧ kv = .int .i64 k ∧ (∀ i (h : i < S.length), k ≤ i → bytesBefore nm S[i].name = true) ∧ Fr No w wr
def OpEnd (S : List Ac) (nm : List UInt8) (w : World) (kv : Value) (wr : World) : Prop :=
  ∃ k : Nat, k ≤ S.length ∧ kv = .int .i64 k ∧ (∀ i (h : i < S.length), k ≤ i → bytesBefore nm S[i].name = true) ∧ (∀ (h : 0 < k) (h2 : k - 1 < S.length), bytesBefore nm S[k - 1].name = false) ∧ Fr No w wr

end Go.Proofs.YtgklifbfbjdobaaGreat
