/- What all accounts have together: of the chart, and of the document's own. -/
import Derived.Test.YtpaeohmoecdniabChartJ1
import Derived.Maps.RangeWalk
import Derived.StringKeys
namespace Go.Proofs.Ytpaeohmoecdniab
open Go.RowKit Go.My Go.Maps
set_option linter.unusedSimpArgs false
set_option linter.unusedVariables false
attribute [local go_sem ↓] Go.wp_at_zero Go.wp_at_succ

theorem elI : El Try.prog 58 2 1 8 := ⟨Try.underlying58, by
  have h : (Try.prog.info? 2).map (fun i => (i.zero, i.size, i.bytes)) = some (some (.int .i64 0), 1, 8) := by kernel_rfl
  obtain ⟨i, hi, hz, hs, hb⟩ := info_parts h
  exact ⟨i, _, hi, hz, hs, hb, rfl⟩, by omega⟩

/-- what accounts have -/
def hvs (S : List Ac) : List Int := S.map Ac.hv
theorem hvs_length (S : List Ac) : (hvs S).length = S.length := by simp [hvs]
theorem hvs_in {S : List Ac} (h : OkS S) : ∀ x ∈ hvs S, In64 x := by
  intro x hx
  unfold hvs at hx
  obtain ⟨a, ha, rfl⟩ := List.mem_map.1 hx
  exact (h a ha).1
theorem hvs_take {S : List Ac} {k : Nat} (hk : k < S.length) : hvs (S.take (k + 1)) = hvs (S.take k) ++ [S[k].hv] := by
  unfold hvs
  rw [List.take_succ_eq_append_getElem hk, List.map_append]
  rfl

/-! ### the chart's -/

/-- the accounts that are still to come -/
def rem (left : Lit → Bool) (S : List Ac) : List Ac := S.filter fun a => left a.key
theorem rem_all (S : List Ac) : rem (Maps.has (dOf S)) S = S := by
  unfold rem
  refine List.filter_eq_self.2 fun a ha => ?_
  show Maps.has (dOf S) (.string a.name) = true
  rw [has_dOf]
  unfold getA
  rw [List.find?_isSome]
  exact ⟨a, ha, by simp⟩
theorem rem_step (left : Lit → Bool) : ∀ (S : List Ac) (a : Ac), Rise S → a ∈ S → left a.key = true →
    (rem left S).length = (rem (fun z => left z && !z.sameKey a.key) S).length + 1 ∧ total (hvs (rem left S)) = a.hv + total (hvs (rem (fun z => left z && !z.sameKey a.key) S))
  | c :: r, a, hr, ha, hl => by
    obtain ⟨h1, h2⟩ := List.pairwise_cons.1 hr
    rcases List.mem_cons.1 ha with rfl | ha
    · have hrest : rem (fun z => left z && !z.sameKey a.key) r = rem left r := by
        unfold rem
        refine List.filter_congr fun b hb => ?_
        have hne : b.key.sameKey a.key = false := by
          show (b.name == a.name) = false
          rw [beq_eq_false_iff_ne]
          intro h
          have := h1 b hb
          rw [show a.key = b.key by unfold Ac.key; rw [h], WideShapes.before_irrefl] at this
          cases this
        show (left b.key && !b.key.sameKey a.key) = left b.key
        rw [hne]
        simp
      have e1 : rem left (a :: r) = a :: rem left r := by unfold rem; rw [List.filter_cons, if_pos hl]
      have e2 : rem (fun z => left z && !z.sameKey a.key) (a :: r) = rem left r := by
        rw [← hrest]
        unfold rem
        rw [List.filter_cons, if_neg]
        show ¬ (left a.key && !(a.name == a.name)) = true
        simp
      rw [e1, e2]
      exact ⟨rfl, rfl⟩
    · obtain ⟨g1, g2⟩ := rem_step left r a h2 ha hl
      have hne : c.key.sameKey a.key = false := by
        show (c.name == a.name) = false
        rw [beq_eq_false_iff_ne]
        intro h
        have := h1 a ha
        rw [show c.key = a.key by unfold Ac.key; rw [h], WideShapes.before_irrefl] at this
        cases this
      unfold rem at g1 g2 ⊢
      rw [List.filter_cons, List.filter_cons]
      simp only [hne, Bool.not_false, Bool.and_true] at g1 g2 ⊢
      by_cases hc : left c.key = true
      · rw [if_pos hc, if_pos hc]
        refine ⟨by simp only [List.length_cons]; omega, ?_⟩
        unfold hvs at g2 ⊢
        simp only [List.map_cons, total_cons]
        omega
      · rw [if_neg hc, if_neg hc]
        exact ⟨g1, g2⟩

theorem ranges_fr {F : Nat → Prop} {P : Program} {k : TypeId} {R : Value → Option (DataW Unit × List MemPlace)} {b r n : Nat} {D : DataW Unit} {left : Lit → Bool} {cnt : Nat} {w w' : World} (h : w.ranges P k R b r n D left cnt) (hf : Fr F w w') (hb : ¬ F b) (hr : ¬ F r) : w'.ranges P k R b r n D left cnt := by
  obtain ⟨es, clock, since, seen, c0, h1, h2, h3, h4, h5, h6⟩ := h
  exact ⟨es, clock, since, seen, c0, (hf.block b (Array.getElem?_eq_some_iff.1 h1).1 hb).trans h1, h2, h3, h4, (hf.block r (Array.getElem?_eq_some_iff.1 h5).1 hr).trans h5, h6⟩
theorem fr_grown {w w' : World} {r : Nat} (h : w.grownBy w' (some r)) : Fr (At1 r) w w' := ⟨h.os, h.tape, h.output, h.size, fun k hk hn => h.block k hk (fun e => hn (by injection e))⟩
theorem fr_grown0 {w w' : World} (h : w.grownBy w' none) : Fr No w w' := ⟨h.os, h.tape, h.output, h.size, fun k hk _ => h.block k hk (fun e => by cases e)⟩

theorem ranges_ne {P : Program} {k : TypeId} {R : Value → Option (DataW Unit × List MemPlace)} {b r n g : Nat} {D : DataW Unit} {left : Lit → Bool} {cnt : Nat} {w : World} {t : TypeId} {cs : Array Value} (h : w.ranges P k R b r n D left cnt) (hg : Blk w g t cs) (he : r = g) : False := by
  subst he
  obtain ⟨es, clock, since, seen, c0, h1, h2, h3, h4, h5, h6⟩ := h
  unfold Blk at hg
  rw [h5] at hg
  cases hg
theorem own_ne_range {P : Program} {k : TypeId} {R : Value → Option (DataW Unit × List MemPlace)} {b r n size n2 : Nat} {D : DataW Unit} {left : Lit → Bool} {cnt : Nat} {w : World} {t : TypeId} {v : Value} {xs : List Value} (ho : Own w t size v n2 xs) (h : w.ranges P k R b r n D left cnt) : ∀ k, v.ownBlock = some k → ¬ At1 r k := fun k hk hk2 => by
  obtain ⟨cur, hcur⟩ := ho.blk k hk
  have h2 : r = k := hk2.symm
  exact ranges_ne h hcur h2
theorem own_ne_map {P : Program} {k : TypeId} {R : Value → Option (DataW Unit × List MemPlace)} {b n size n2 : Nat} {D : DataW Unit} {w : World} {t : TypeId} {v : Value} {xs : List Value} (ho : Own w t size v n2 xs) (h : w.ownsMap P k R b n D) : ∀ k, v.ownBlock = some k → ¬ b = k := fun k hk hk2 => by
  obtain ⟨cur, hcur⟩ := ho.blk k hk
  subst hk2
  obtain ⟨es, clock, hb, _⟩ := h
  unfold Blk at hcur
  rw [hb] at hcur
  cases hcur
def TotCRel (w : World) (m r : Nat) (S : List Ac) (lv : Value) (wr : World) : Prop :=
  ∃ (left : Lit → Bool) (cnt : Nat) (L : List Int), wr.ranges Try.prog 9 acR m r S.length (dOf S) left cnt ∧ Own wr 2 1 lv L.length (is_ L) ∧ Fr No w wr ∧ Newer w.heap.size none lv.ownBlock ∧ w.heap.size ≤ r ∧
    L.length + (rem left S).length = S.length ∧ total L + total (hvs (rem left S)) = total (hvs S) ∧ ∀ x ∈ L, In64 x

theorem tot_done {left : Lit → Bool} {S : List Ac} {L : List Int} (hl0 : ∀ kl, left kl = false) (hlen : L.length + (rem left S).length = S.length) (htot : total L + total (hvs (rem left S)) = total (hvs S)) : L.length = S.length ∧ total L = total (hvs S) := by
  have hrem : rem left S = [] := by
    unfold rem
    refine List.filter_eq_nil_iff.2 fun a _ => ?_
    rw [hl0]
    decide
  rw [hrem] at hlen htot
  exact ⟨by simpa using hlen, by simpa [hvs, total_nil] using htot⟩
theorem tot_more {left : Lit → Bool} {S : List Ac} {L : List Int} {x : ByteArray} {c : Ac} {kl : Lit} {y : DataW Unit × List MemPlace} (hr : Rise S) (ho : OkS S) (hkey : keyOf Try.prog 9 (.string x) = some kl) (hlk : left kl = true) (hv : acR c.val = some y)
    (hat : ∀ zd, (dOf S).atKey kl zd = y.1) (hlen : L.length + (rem left S).length = S.length) (htot : total L + total (hvs (rem left S)) = total (hvs S)) :
    L.length + 1 + (rem (fun z => left z && !z.sameKey kl) S).length = S.length ∧ total L + c.hv + total (hvs (rem (fun z => left z && !z.sameKey kl) S)) = total (hvs S) ∧ In64 c.hv := by
  obtain ⟨s, hxs, hkl, _⟩ := Go.WideMaps.string_of_keyOf Try.underlying9 hkey
  injection hxs with hxs
  subst hxs
  rw [acR_val] at hv
  injection hv with hv
  have hmem : c ∈ S ∧ c.key = kl := by
    have h1 := hat .nil
    rw [hkl, at_dOf] at h1
    cases hg : getA S x.data.toList with
    | none =>
      rw [hg] at h1
      have h2 := hat (.lit (.int .i64 0))
      rw [hkl, at_dOf, hg] at h2
      simp only at h1 h2
      rw [← h1] at h2
      cases h2
    | some a =>
      rw [hg] at h1
      simp only at h1
      rw [← hv] at h1
      have := Ac.dat_inj h1
      subst this
      refine ⟨(getA_some hg).1, ?_⟩
      unfold Ac.key
      rw [(getA_some hg).2, hkl]
  obtain ⟨hcS, rfl⟩ := hmem
  obtain ⟨e1, e2⟩ := rem_step left S c hr hcS hlk
  have hci := (ho c hcS).1
  rw [e1] at hlen
  rw [e2] at htot
  exact ⟨by omega, by omega, hci⟩

set_option maxRecDepth 100000 in
set_option maxHeartbeats 1000000 in
theorem tot_any (p m : Nat) (S : List Ac) (w : World) (h : ChS w p m S) (hI : Inv S) :
    Calls Try.prog 23 #[.pointer (some ⟨p, 0, none⟩)] w fun e w' => e = .returned (two64 (total (hvs S))) ∧ Fr No w w' := by
  have hL := hI.len
  have HI := Lib.hid hI
  have c0 := h.1.cell 0
  simp only [List.getElem?_toArray, List.getElem?_cons_zero] at c0
  have hml := h.2.lt
  have HM := Lib.hid h.2
  clear hI h
  go_enter Try.func23, Try.ntmps23
  go_wp2_with (at_range; refine wpList_range_own _ rfl (.tmp 12) 67 rfl 9 49 law Try.underlying67 acR m S.length (dOf S) rfl HM.out.1 ?_; intro w0 hrg0 hg0 hs0)
  go_frame
  have hmr : m ≠ w.heap.size := by omega
  go_loopw [4] (fun lv wr => TotCRel w m w.heap.size S lv wr) (fun _ wr => wr.rangeLeft m w.heap.size)
  case atStart => exact ⟨_, _, [], hrg0, Own.nil _ _ _, fr_grown0 hg0, .inl rfl, Nat.le_refl _, by rw [rem_all]; simp, by rw [rem_all]; simp [total_nil], fun _ h => by simp at h⟩
  case round =>
    obtain ⟨left, cnt, L, hrg, hown, hfr, hnew, hr, hlen, htot, hin⟩ := hrel
    have HIN := Lib.hid hin
    have HLEN := Lib.hid hlen
    have HTOT := Lib.hid htot
    have HFR := Lib.hid hfr
    have HRG := Lib.hid hrg
    have HOWN := Lib.hid hown
    have HNEW := Lib.hid hnew
    clear hin hlen htot hfr hrg hown hnew
    have HNB : Hid (∀ (W : World) o cs, ((W.alloc o).alloc (.cells cs 2)).heap[W.heap.size + 1]? = some (.cells cs 2 (0, 0))) := fun W o cs => by
      have := heap_alloc_new (W.alloc o) (.cells cs 2)
      rw [World.size_alloc] at this
      exact this
    have HNR := Lib.hid (own_ne_range HOWN.out HRG.out)
    go_wp2_with (at_next; refine wpList_next_ranges _ rfl (.tmp 13) rfl 9 law acR Value.string Ac.val (fun key kl hk => by obtain ⟨s, hs, _⟩ := Go.WideMaps.string_of_keyOf Try.underlying9 hk; exact ⟨s, hs⟩) (fun v y hv => by obtain ⟨a, ha, _⟩ := acR_inv hv; exact ⟨a, ha⟩) m w.heap.size S.length (dOf S) left cnt rfl HRG.out ?_ ?_)
    · intro hc0 hl0
      obtain ⟨hd1, hd2⟩ := tot_done hl0 HLEN.out HTOT.out
      obtain ⟨A4, c4, rfl, hl4, hc4⟩ := HOWN.out.form
      have h4 := total_any _ A4 c4 L wr HOWN.out.rd HIN.out (by omega)
      rw [hd2] at h4
      obtain ⟨v1, n1, hv1⟩ : ∃ v n, two64 (total (hvs S)) = .tuple #[.int .i64 v, .int .i64 n] := ⟨_, _, rfl⟩
      rw [hv1] at h4
      have HV := Lib.hid hv1
      have H4 := Lib.hid h4
      clear h4 hv1 hl0 hc0 hd1 hd2
      go_wp2_with fail
      refine H4.out.mono ?_
      rintro e w5 ⟨rfl, rfl⟩
      go_wp2
      go_ret2
      exact ⟨by rw [HV.out]; rfl, HFR.out⟩
    · intro x c kl yd yp w1 cnt1 hkey hlk hv hat hrg1 hlt hg1 hs1 hen
      obtain ⟨hx1, hx2, hx3⟩ := tot_more (y := (yd, yp)) HM.out.2 HI.out.ok hkey hlk hv hat HLEN.out HTOT.out
      have HRG1 := Lib.hid hrg1
      have HF1 := Lib.hid (fr_grown hg1)
      have HO1 := Lib.hid (HOWN.out.fr (fr_grown hg1) HNR.out)
      have HLT := Lib.hid hlt
      obtain ⟨nc, vc, sc, lc⟩ := c
      unfold Ac.val at hen
      simp only at hen hx2 hx3
      have HX2 := Lib.hid hx2
      have HX3 := Lib.hid hx3
      have hL12 : L.length + 1 ≤ 12 := by omega
      have HX1 := Lib.hid hx1
      clear hmr hkey hlk hv hat hrg1 hlt hg1 hs1 hx2 hx3 hx1
      go_wp2_with (at_builtin; refine wpList_app _ rfl (.tmp 18) (.tmp 21) 58 58 rfl elI ((HO1.out.alloc _).alloc _) rfl (Src.of_new (w1.heap.size + 1) (HNB.out _ _ _) Try.underlying58 rfl (by simp [Value.oneCell'])) rfl (by unfold maxLen; omega) (by omega) ?_; intro v1 w3 hown3 hfr3 hnew3)
      have HF3 := Lib.hid (Fr.trans (((Fr.refl _ _).alloc _).alloc _) hfr3)
      have HO3 := Lib.hid hown3
      have HN3 := Lib.hid hnew3
      clear hown3 hfr3 hnew3
      have HRG3 := Lib.hid (ranges_fr HRG1.out HF3.out (fun h => own_ne_map HOWN.out HRG.out.owns _ h rfl) (fun h => HNR.out _ h rfl))
      go_roundw
      case rel =>
        have h1 := HFR.out.size
        have h2 := HF1.out.size
        refine ⟨_, cnt1, L ++ [vc], HRG3.out, ?_, ?_, ?_, Nat.le_refl _, ?_, ?_, ?_⟩
        · have h3 := HO3.out
          rw [List.length_append, is_append]
          exact h3
        · exact fr_no (HFR.out.trans' HF1.out (fun i hi hlt => by have : i = w.heap.size := hi; omega)) HNEW.out HF3.out
        · exact HNEW.out.trans (Newer.of HN3.out) (by simp; omega)
        · have := HX1.out
          rw [List.length_append]
          exact this
        · have := HX2.out
          rw [total_append]
          simp only [total_cons, total_nil]
          omega
        · intro y hy
          rcases List.mem_append.1 hy with hy | hy
          · exact HIN.out y hy
          · rw [List.mem_singleton.1 hy]
            exact HX3.out
      case measure =>
        rw [HRG3.out.left_eq, HRG.out.left_eq]
        exact HLT.out
end Go.Proofs.Ytpaeohmoecdniab
