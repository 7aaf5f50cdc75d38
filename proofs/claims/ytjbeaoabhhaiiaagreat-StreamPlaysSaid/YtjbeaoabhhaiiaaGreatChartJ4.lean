/- What all accounts have together: of the chart, and of the document's own. -/
import Derived.Test.YtjbeaoabhhaiiaaGreatChartJ1
import Derived.Maps.RangeWalk
import Derived.StringKeys
namespace Go.Proofs.YtjbeaoabhhaiiaaGreat
open Go.RowKit Go.My Go.Maps
set_option linter.unusedSimpArgs false
set_option linter.unusedVariables false
attribute [local go_sem ↓] Go.wp_at_zero Go.wp_at_succ

theorem elI : El Tryz.prog 184 2 1 8 := ⟨Tryz.underlying184, by
  have h : (Tryz.prog.info? 2).map (fun i => (i.zero, i.size, i.bytes)) = some (some (.int .i64 0), 1, 8) := by kernel_rfl
  obtain ⟨i, hi, hz, hs, hb⟩ := info_parts h
  exact ⟨i, _, hi, hz, hs, hb, rfl⟩, by omega⟩

/-- what accounts have -/
def hvs (S : List Ac) : List Int := S.map Ac.hv
theorem hvs_length (S : List Ac) : (hvs S).length = S.length := by simp [hvs]
theorem hvs_in {S : List Ac} (h : OkS S) : ∀ x ∈ hvs S, In64 x := by
  intro x hx
  unfold hvs at hx
  obtain ⟨a, ha, rfl⟩ := List.mem_map.1 hx
  exact (h a ha).1
theorem hvs_take {S : List Ac} {k : Nat} (hk : k < S.length) : hvs (S.take (k + 1)) = hvs (S.take k) ++ [S[k].hv] := by
  unfold hvs
  rw [List.take_succ_eq_append_getElem hk, List.map_append]
  rfl

/-! ### the chart's -/

/-- the accounts that are still to come -/
def rem (left : Lit → Bool) (S : List Ac) : List Ac := S.filter fun a => left a.key
theorem rem_all (S : List Ac) : rem (Maps.has (dOf S)) S = S := by
  unfold rem
  refine List.filter_eq_self.2 fun a ha => ?_
  show Maps.has (dOf S) (.string a.name) = true
  rw [has_dOf]
  unfold getA
  rw [List.find?_isSome]
  exact ⟨a, ha, by simp⟩
theorem rem_step (left : Lit → Bool) : ∀ (S : List Ac) (a : Ac), Rise S → a ∈ S → left a.key = true →
    (rem left S).length = (rem (fun z => left z && !z.sameKey a.key) S).length + 1 ∧ total (hvs (rem left S)) = a.hv + total (hvs (rem (fun z => left z && !z.sameKey a.key) S))
  | c :: r, a, hr, ha, hl => by
    obtain ⟨h1, h2⟩ := List.pairwise_cons.1 hr
    rcases List.mem_cons.1 ha with rfl | ha
    · have hrest : rem (fun z => left z && !z.sameKey a.key) r = rem left r := by
        unfold rem
        refine List.filter_congr fun b hb => ?_
        have hne : b.key.sameKey a.key = false := by
          show (b.name == a.name) = false
          rw [beq_eq_false_iff_ne]
          intro h
          have := h1 b hb
          rw [show a.key = b.key by unfold Ac.key; rw [h], WideShapes.before_irrefl] at this
          cases this
        show (left b.key && !b.key.sameKey a.key) = left b.key
        rw [hne]
        simp
      have e1 : rem left (a :: r) = a :: rem left r := by unfold rem; rw [List.filter_cons, if_pos hl]
      have e2 : rem (fun z => left z && !z.sameKey a.key) (a :: r) = rem left r := by
        rw [← hrest]
        unfold rem
        rw [List.filter_cons, if_neg]
        show ¬ (left a.key && !(a.name == a.name)) = true
        simp
      rw [e1, e2]
      exact ⟨rfl, rfl⟩
    · obtain ⟨g1, g2⟩ := rem_step left r a h2 ha hl
      have hne : c.key.sameKey a.key = false := by
        show (c.name == a.name) = false
        rw [beq_eq_false_iff_ne]
        intro h
        have := h1 a ha
        rw [show c.key = a.key by unfold Ac.key; rw [h], WideShapes.before_irrefl] at this
        cases this
      unfold rem at g1 g2 ⊢
      rw [List.filter_cons, List.filter_cons]
      simp only [hne, Bool.not_false, Bool.and_true] at g1 g2 ⊢
      by_cases hc : left c.key = true
      · rw [if_pos hc, if_pos hc]
        refine ⟨by simp only [List.length_cons]; omega, ?_⟩
        unfold hvs at g2 ⊢
        simp only [List.map_cons, total_cons]
        omega
      · rw [if_neg hc, if_neg hc]
        exact ⟨g1, g2⟩

theorem ranges_fr {F : Nat → Prop} {P : Program} {k : TypeId} {R : Value → Option (DataW Unit × List MemPlace)} {b r n : Nat} {D : DataW Unit} {left : Lit → Bool} {cnt : Nat} {w w' : World} (h : w.ranges P k R b r n D left cnt) (hf : Fr F w w') (hb : ¬ F b) (hr : ¬ F r) : w'.ranges P k R b r n D left cnt := by
  obtain ⟨es, clock, since, seen, c0, h1, h2, h3, h4, h5, h6⟩ := h
  exact ⟨es, clock, since, seen, c0, (hf.block b (Array.getElem?_eq_some_iff.1 h1).1 hb).trans h1, h2, h3, h4, (hf.block r (Array.getElem?_eq_some_iff.1 h5).1 hr).trans h5, h6⟩
theorem fr_grown {w w' : World} {r : Nat} (h : w.grownBy w' (some r)) : Fr (At1 r) w w' := ⟨h.os, h.tape, h.output, h.size, fun k hk hn => h.block k hk (fun e => hn (by injection e))⟩
theorem fr_grown0 {w w' : World} (h : w.grownBy w' none) : Fr No w w' := ⟨h.os, h.tape, h.output, h.size, fun k hk _ => h.block k hk (fun e => by cases e)⟩

theorem ranges_ne {P : Program} {k : TypeId} {R : Value → Option (DataW Unit × List MemPlace)} {b r n g : Nat} {D : DataW Unit} {left : Lit → Bool} {cnt : Nat} {w : World} {t : TypeId} {cs : Array Value} (h : w.ranges P k R b r n D left cnt) (hg : Blk w g t cs) (he : r = g) : False := by
  subst he
  obtain ⟨es, clock, since, seen, c0, h1, h2, h3, h4, h5, h6⟩ := h
  unfold Blk at hg
  rw [h5] at hg
  cases hg
theorem own_ne_range {P : Program} {k : TypeId} {R : Value → Option (DataW Unit × List MemPlace)} {b r n size n2 : Nat} {D : DataW Unit} {left : Lit → Bool} {cnt : Nat} {w : World} {t : TypeId} {v : Value} {xs : List Value} (ho : Own w t size v n2 xs) (h : w.ranges P k R b r n D left cnt) : ∀ k, v.ownBlock = some k → ¬ At1 r k := fun k hk hk2 => by
  obtain ⟨cur, hcur⟩ := ho.blk k hk
  have h2 : r = k := hk2.symm
  exact ranges_ne h hcur h2
theorem own_ne_map {P : Program} {k : TypeId} {R : Value → Option (DataW Unit × List MemPlace)} {b n size n2 : Nat} {D : DataW Unit} {w : World} {t : TypeId} {v : Value} {xs : List Value} (ho : Own w t size v n2 xs) (h : w.ownsMap P k R b n D) : ∀ k, v.ownBlock = some k → ¬ b = k := fun k hk hk2 => by
  obtain ⟨cur, hcur⟩ := ho.blk k hk
  subst hk2
  obtain ⟨es, clock, hb, _⟩ := h
  unfold Blk at hcur
  rw [hb] at hcur
  cases hcur
def TotCRel (w : World) (m r : Nat) (S : List Ac) (lv : Value) (wr : World) : Prop :=
  ∃ (left : Lit → Bool) (cnt : Nat) (L : List Int), wr.ranges Tryz.prog 9 acR m r S.length (dOf S) left cnt ∧ Own wr 2 1 lv L.length (is_ L) ∧ Fr No w wr ∧ Newer w.heap.size none lv.ownBlock ∧ w.heap.size ≤ r ∧
    L.length + (rem left S).length = S.length ∧ total L + total (hvs (rem left S)) = total (hvs S) ∧ ∀ x ∈ L, In64 x

theorem tot_done {left : Lit → Bool} {S : List Ac} {L : List Int} (hl0 : ∀ kl, left kl = false) (hlen : L.length + (rem left S).length = S.length) (htot : total L + total (hvs (rem left S)) = total (hvs S)) : L.length = S.length ∧ total L = total (hvs S) := by
  have hrem : rem left S = [] := by
    unfold rem
    refine List.filter_eq_nil_iff.2 fun a _ => ?_
    rw [hl0]
    decide
  rw [hrem] at hlen htot
  exact ⟨by simpa using hlen, by simpa [hvs, total_nil] using htot⟩
theorem tot_more {left : Lit → Bool} {S : List Ac} {L : List Int} {x : ByteArray} {c : Ac} {kl : Lit} {y : DataW Unit × List MemPlace} (hr : Rise S) (ho : OkS S) (hkey : keyOf Tryz.prog 9 (.string x) = some kl) (hlk : left kl = true) (hv : acR c.val = some y)
    (hat : ∀ zd, (dOf S).atKey kl zd = y.1) (hlen : L.length + (rem left S).length = S.length) (htot : total L + total (hvs (rem left S)) = total (hvs S)) :
    L.length + 1 + (rem (fun z => left z && !z.sameKey kl) S).length = S.length ∧ total L + c.hv + total (hvs (rem (fun z => left z && !z.sameKey kl) S)) = total (hvs S) ∧ In64 c.hv := by
  obtain ⟨s, hxs, hkl, _⟩ := Go.WideMaps.string_of_keyOf Tryz.underlying9 hkey
  injection hxs with hxs
  subst hxs
  rw [acR_val] at hv
  injection hv with hv
  have hmem : c ∈ S ∧ c.key = kl := by
    have h1 := hat .nil
    rw [hkl, at_dOf] at h1
    cases hg : getA S x.data.toList with
    | none =>
      rw [hg] at h1
      have h2 := hat (.lit (.int .i64 0))
      rw [hkl, at_dOf, hg] at h2
      simp only at h1 h2
      rw [← h1] at h2
      cases h2
    | some a =>
      rw [hg] at h1
      simp only at h1
      rw [← hv] at h1
      have := Ac.dat_inj h1
      subst this
      refine ⟨(getA_some hg).1, ?_⟩
      unfold Ac.key
      rw [(getA_some hg).2, hkl]
  obtain ⟨hcS, rfl⟩ := hmem
  obtain ⟨e1, e2⟩ := rem_step left S c hr hcS hlk
  have hci := (ho c hcS).1
  rw [e1] at hlen
  rw [e2] at htot
  exact ⟨by omega, by omega, hci⟩

end Go.Proofs.YtjbeaoabhhaiiaaGreat
