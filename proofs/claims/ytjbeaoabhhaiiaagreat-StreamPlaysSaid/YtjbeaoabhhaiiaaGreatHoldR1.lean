/- The document's own holds: in lists; words; at, Of, cut. -/
import Derived.Test.YtjbeaoabhhaiiaaGreatHoldK0
import Derived.Deep.RegionLaw
import Derived.Deep.CutBlock
import Derived.Deep.DeepCutAuto
namespace Go.My
open Go Go.RowKit Go.Maps

theorem findH_take {H : List Hd} {a : List UInt8} {n : Int} {k : Nat} (hk : k < H.length) (h : ∀ x ∈ H.take k, ¬ (x.acct = a ∧ x.num = n)) (h1 : H[k].acct = a) (h2 : H[k].num = n) : getH H a n = some H[k] := by
  unfold getH
  rw [List.find?_eq_some_iff_append]
  refine ⟨Hd.at_iff.2 ⟨h1, h2⟩, H.take k, H.drop (k + 1), by simp, fun x hx => ?_⟩
  have := h x hx
  cases hq : x.at a n with
  | false => rfl
  | true => exact absurd (Hd.at_iff.1 hq) this
theorem del_atH {H : List Hd} (hr : RiseH H) {a : List UInt8} {n : Int} {k : Nat} (hk : k < H.length) (h1 : H[k].acct = a) (h2 : H[k].num = n) : delH H a n = H.take k ++ H.drop (k + 1) := by
  have e : H = H.take k ++ H[k] :: H.drop (k + 1) := by simp
  have hne : ∀ i (hi : i < H.length), i ≠ k → H[i].at a n = false := fun i hi hik => by
    cases hq : H[i].at a n with
    | false => rfl
    | true =>
      exfalso
      obtain ⟨e1, e2⟩ := Hd.at_iff.1 hq
      have hir : ∀ x y : Nat, (hx : x < H.length) → (hy : y < H.length) → x < y → hB H[x] H[y] = true := fun x y hx hy hxy => List.pairwise_iff_getElem.1 hr x y hx hy hxy
      rcases Nat.lt_or_gt_of_ne hik with hlt | hgt
      · have h3 := hir i k hi hk hlt
        rw [hB_irrefl (e1.trans h1.symm) (e2.trans h2.symm)] at h3
        cases h3
      · have h3 := hir k i hk hi hgt
        rw [hB_irrefl (h1.trans e1.symm) (h2.trans e2.symm)] at h3
        cases h3
  unfold delH
  have hF : ∀ x ∈ H.take k, (!x.at a n) = true := fun x hx => by
    obtain ⟨i, hi, rfl⟩ := List.mem_iff_getElem.1 hx
    rw [List.length_take] at hi
    rw [List.getElem_take, hne i (by omega) (by omega)]
    rfl
  have hG : ∀ x ∈ H.drop (k + 1), (!x.at a n) = true := fun x hx => by
    obtain ⟨i, hi, rfl⟩ := List.mem_iff_getElem.1 hx
    rw [List.length_drop] at hi
    rw [List.getElem_drop, hne (k + 1 + i) (by omega) (by omega)]
    rfl
  have hm : (H[k].at a n) = true := Hd.at_iff.2 ⟨h1, h2⟩
  calc H.filter (fun h => !h.at a n) = (H.take k ++ H[k] :: H.drop (k + 1)).filter (fun h => !h.at a n) := by rw [← e]
    _ = H.take k ++ H.drop (k + 1) := by
      rw [List.filter_append, List.filter_cons, List.filter_eq_self.2 hF, List.filter_eq_self.2 hG, hm]
      rfl
theorem insH_at : ∀ (H : List Hd) (x : Hd) (k : Nat), k ≤ H.length → RiseH H → (∀ i (h : i < H.length), k ≤ i → hB x H[i] = true) → (∀ (_ : 0 < k) (h2 : k - 1 < H.length), hB x H[k - 1] = false) → insH x H = H.take k ++ x :: H.drop k
  | [], x, k, hk, _, _, _ => by
    have : k = 0 := by simpa using hk
    subst this
    rfl
  | b :: r, x, 0, _, _, hall, _ => by
    have := hall 0 (by simp) (Nat.le_refl _)
    simp only [List.getElem_cons_zero] at this
    unfold insH
    rw [if_pos this]
    rfl
  | b :: r, x, k + 1, hk, hr, hall, hno => by
    obtain ⟨hb, hrr⟩ := List.pairwise_cons.1 hr
    have h1 := hno (by omega) (by simp only [List.length_cons, Nat.add_sub_cancel] at hk ⊢; omega)
    have hxb : ¬ hB x b = true := fun hxb => by
      simp only [Nat.add_sub_cancel] at h1
      cases k with
      | zero => simp only [List.getElem_cons_zero] at h1; rw [hxb] at h1; cases h1
      | succ j =>
        simp only [List.getElem_cons_succ] at h1
        have hj : j < r.length := by simp only [List.length_cons] at hk; omega
        have := hB_trans hxb (hb r[j] (List.getElem_mem hj))
        rw [this] at h1
        cases h1
    unfold insH
    rw [if_neg hxb]
    have ih := insH_at r x k (by simpa using hk) hrr (fun i h hki => by have := hall (i + 1) (by simpa using h) (by omega); simpa using this) (fun h0 h2 => by
      have : ∃ j, k = j + 1 := ⟨k - 1, by omega⟩
      obtain ⟨j, rfl⟩ := this
      simpa using h1)
    rw [ih]
    rfl
end Go.My
namespace Go.Proofs.YtjbeaoabhhaiiaaGreat
open Go.RowKit Go.My Go.Maps
set_option linter.unusedSimpArgs false
set_option linter.unusedVariables false
attribute [local go_sem ↓] Go.wp_at_zero Go.wp_at_succ

/-- the document's holds at r are the list H -/
def RfH (w : World) (r : Nat) (H : List Hd) : Prop := ∃ A c, Blk w r 125 #[.slice A H.length c] ∧ H.length ≤ c ∧ c ≤ maxLen ∧ Own w 129 3 (.slice A H.length c) H.length (hds H)
theorem RfH.lt {w : World} {r : Nat} {H : List Hd} (h : RfH w r H) : r < w.heap.size := by obtain ⟨A, c, hb, _⟩ := h; exact hb.lt
theorem RfH.fr {w w' : World} {r : Nat} {H : List Hd} {F : Nat → Prop} (h : RfH w r H) (hf : Fr F w w') (hq : ¬ F r) (hn : ∀ k, F k → ∀ cur, ¬ Blk w k 129 cur) : RfH w' r H := by
  obtain ⟨A, c, hb, h1, h2, ho⟩ := h
  exact ⟨A, c, hb.fr hf hq, h1, h2, ho.fr hf fun k hk hF => by
    obtain ⟨cur, hc⟩ := ho.blk k hk
    exact hn k hF cur hc⟩
theorem RfH.no {w w' : World} {r : Nat} {H : List Hd} (h : RfH w r H) (hf : Fr No w w') : RfH w' r H := h.fr hf (fun h => h) (fun _ h => False.elim h)
/-- the document's chart has changed -/
theorem RfH.chart {w w' : World} {r q : Nat} {cs : Array Value} {H : List Hd} (h : RfH w r H) (hb : Blk w q 122 cs) (hf : Fr (At1 q) w w') : RfH w' r H := by
  have h' := h
  obtain ⟨A, c, hbr, _⟩ := h'
  exact h.fr hf (fun e => Blk.ne_ hbr hb (by decide) e) (fun k hk cur hc => Blk.ne_ hc hb (by decide) hk)
/-- the document's holds have changed -/
theorem RfS.holds {w w' : World} {r q : Nat} {cs : Array Value} {S : List Ac} (h : RfS w q S) (hb : Blk w r 125 cs) (hf : Fr (At1 r) w w') : RfS w' q S := by
  have h' := h
  obtain ⟨A, c, hbr, _⟩ := h'
  exact h.fr hf (fun e => Blk.ne_ hbr hb (by decide) e) (fun k hk cur hc => Blk.ne_ hc hb (by decide) hk)
theorem RfH.blk {w : World} {r : Nat} {H : List Hd} (h : RfH w r H) : ∃ cs, Blk w r 125 cs := by obtain ⟨A, c, hb, _⟩ := h; exact ⟨_, hb⟩
theorem RfS.blk {w : World} {q : Nat} {S : List Ac} (h : RfS w q S) : ∃ cs, Blk w q 122 cs := by obtain ⟨A, c, hb, _⟩ := h; exact ⟨_, hb⟩
theorem elHR : El Tryz.prog 123 129 3 32 := ⟨Tryz.underlying123, by
  have h : (Tryz.prog.info? 129).map (fun i => (i.zero, i.size, i.bytes)) = some (some (.agg #[.int .i64 0, .string ⟨#[]⟩, .int .i64 0]), 3, 32) := by kernel_rfl
  obtain ⟨i, hi, hz, hs, hb⟩ := info_parts h
  exact ⟨i, _, hi, hz, hs, hb, rfl⟩, by omega⟩
theorem hds_ones (L : List Hd) : ∀ u ∈ hds L, u.oneCell' = true := fun u hu => by
  unfold hds at hu
  obtain ⟨a, _, ha⟩ := List.mem_flatMap.1 hu
  simp only [encH, List.mem_cons, List.not_mem_nil, or_false] at ha
  rcases ha with rfl | rfl | rfl <;> rfl
theorem hds_take (L : List Hd) (k : Nat) (hk : k ≤ L.length) : (hds L).take (k * 3) = hds (L.take k) := by
  have e : hds L = hds (L.take k) ++ hds (L.drop k) := by rw [← hds_append, List.take_append_drop]
  have h : (hds (L.take k)).length = k * 3 := by rw [hds_length, List.length_take]; congr 1; omega
  rw [e, ← h, List.take_left]
theorem hds_drop (L : List Hd) (k : Nat) (hk : k ≤ L.length) : (hds L).drop (k * 3) = hds (L.drop k) := by
  have e : hds L = hds (L.take k) ++ hds (L.drop k) := by rw [← hds_append, List.take_append_drop]
  have h : (hds (L.take k)).length = k * 3 := by rw [hds_length, List.length_take]; congr 1; omega
  rw [e, ← h, List.drop_left]
/-- where a hold stands -/
def AtPH (H : List Hd) (a : List UInt8) (n : Int) (z : Int) : Prop := (getH H a n = none ∧ z = -1) ∨ ∃ (k : Nat) (h : k < H.length), z = k ∧ H[k].acct = a ∧ H[k].num = n ∧ getH H a n = some H[k]
def AtRelH (H : List Hd) (a : List UInt8) (n : Int) (w : World) (iv : Value) (wr : World) : Prop := ∃ k : Nat, k ≤ H.length ∧ iv = .int .i64 k ∧ (∀ x ∈ H.take k, ¬ (x.acct = a ∧ x.num = n)) ∧ wr = w
def AtRetH (H : List Hd) (a : List UInt8) (n : Int) (w : World) (e : Ending) (w' : World) : Prop := ∃ z, e = .returned (.int .i64 z) ∧ AtPH H a n z ∧ w = w'
set_option maxRecDepth 100000 in
set_option maxHeartbeats 1000000 in
theorem rat_any (r : Nat) (H : List Hd) (s : ByteArray) (n : Int) (w : World) (h : RfH w r H) (hH : H.length < 1000) :
    Calls Tryz.prog 80 #[.pointer (some ⟨r, 0, none⟩), .string s, .int .i64 n] w (AtRetH H s.data.toList n w) := by
  obtain ⟨A, c, hb, h1, h2, ho⟩ := h
  have c0 := hb.cell 0
  simp only [List.getElem?_toArray, List.getElem?_cons_zero] at c0
  have HO := Lib.hid ho.rd
  clear hb ho h2
  obtain ⟨lo, hlo, hlo2⟩ : ∃ lo : List UInt8, s = ⟨lo.toArray⟩ ∧ s.data.toList = lo := ⟨s.data.toList, by simp, rfl⟩
  rw [hlo2]
  subst hlo
  clear hlo2
  go_enter Tryz.func80, Tryz.ntmps80
  go_wp2
  go_loopw [7] (fun iv wr => AtRelH H lo n w iv wr) (fun iv _ => H.length - (intOf iv).toNat)
  case atStart => exact ⟨0, Nat.zero_le _, rfl, fun _ h => by simp at h, rfl⟩
  case round =>
    obtain ⟨k, hk, rfl, hno, rfl⟩ := hrel
    by_cases hlt : k < H.length
    · obtain ⟨ad, rfl, _, p0, p1, _⟩ := hd_at HO.out k hlt
      have HFD : Hid (H[k].acct = lo → H[k].num = n → AtPH H lo n k) := fun e1 e2 => .inr ⟨k, hlt, rfl, e1, e2, findH_take hlt hno e1 e2⟩
      have HNX : Hid (¬ (H[k].acct = lo ∧ H[k].num = n) → ∀ x ∈ H.take (k + 1), ¬ (x.acct = lo ∧ x.num = n)) := fun hne x hx => by
        rw [List.take_succ_eq_append_getElem hlt] at hx
        rcases List.mem_append.1 hx with hx | hx
        · exact hno x hx
        · rw [List.mem_singleton.1 hx]
          exact hne
      generalize H[k] = x at *
      obtain ⟨xn, xa, xs⟩ := x
      simp only at p0 p1 HFD HNX
      clear hno
      by_cases he : xa = lo
      · subst he
        by_cases hn : xn = n
        · subst hn
          have HF := Lib.hid (HFD.out rfl rfl)
          go_wp2
          go_ret
          exact ⟨_, rfl, HF.out, rfl⟩
        · have HN := Lib.hid (HNX.out (fun h => hn h.2))
          have hz : (xn == n) = false := beq_eq_false_iff_ne.2 hn
          clear hn
          go_wp2
          go_roundw
          case rel => exact ⟨k + 1, by omega, by go_num, HN.out, rfl⟩
          case measure => simp [intOf]; omega
      · have HN := Lib.hid (HNX.out (fun h => he h.1))
        have hz : (xa == lo) = false := beq_eq_false_iff_ne.2 he
        have hz2 : ((⟨xa.toArray⟩ : ByteArray).toList == (⟨lo.toArray⟩ : ByteArray).toList) = false := by rw [ByteArray.toList_eq, ByteArray.toList_eq]; exact hz
        clear he
        go_wp2
        go_roundw
        case rel => exact ⟨k + 1, by omega, by go_num, HN.out, rfl⟩
        case measure => simp [intOf]; omega
    · obtain rfl : k = H.length := by omega
      rw [List.take_length] at hno
      have HF : Hid (AtPH H lo n (-1)) := by
        refine .inl ⟨?_, rfl⟩
        unfold getH
        rw [List.find?_eq_none]
        intro x hx hq
        exact hno x hx (Hd.at_iff.1 hq)
      clear hno
      go_wp2
      go_ret
      exact ⟨_, rfl, HF.out, rfl⟩
def OfRelH (w : World) (H : List Hd) (a : List UInt8) (ov iv : Value) (wr : World) : Prop := ∃ k : Nat, k ≤ H.length ∧ iv = .int .i64 k ∧ Own wr 129 3 ov (ofH (H.take k) a).length (hds (ofH (H.take k) a)) ∧ Fr No w wr ∧ Newer w.heap.size none ov.ownBlock
theorem ofH_next {H : List Hd} (a : List UInt8) {k : Nat} (hk : k < H.length) : ofH (H.take (k + 1)) a = if H[k].acct = a then ofH (H.take k) a ++ [H[k]] else ofH (H.take k) a := by
  unfold ofH
  rw [List.take_succ_eq_append_getElem hk, List.filter_append]
  by_cases h : H[k].acct = a
  · rw [if_pos h]; simp [h]
  · rw [if_neg h]; simp [h]
set_option maxRecDepth 100000 in
set_option maxHeartbeats 1000000 in
theorem rof_any (r : Nat) (H : List Hd) (s : ByteArray) (w : World) (h : RfH w r H) (hH : H.length < 1000) :
    Calls Tryz.prog 81 #[.pointer (some ⟨r, 0, none⟩), .string s] w (RetOwn w 129 3 none (ofH H s.data.toList).length (hds (ofH H s.data.toList))) := by
  obtain ⟨A, c, hb, h1, h2, ho⟩ := h
  have c0 := hb.cell 0
  simp only [List.getElem?_toArray, List.getElem?_cons_zero] at c0
  have HB := Lib.hid hb
  have HO := Lib.hid ho.rd
  clear hb ho h2
  obtain ⟨lo, hlo, hlo2⟩ : ∃ lo : List UInt8, s = ⟨lo.toArray⟩ ∧ s.data.toList = lo := ⟨s.data.toList, by simp, rfl⟩
  rw [hlo2]
  subst hlo
  clear hlo2
  go_enter Tryz.func81, Tryz.ntmps81
  go_wp2
  go_loopw [5, 6] (fun ov iv wr => OfRelH w H lo ov iv wr) (fun _ iv _ => H.length - (intOf iv).toNat)
  case atStart => exact ⟨0, Nat.zero_le _, rfl, by rw [List.take_zero]; exact Own.nil _ _ _, Fr.refl _ _, .inl rfl⟩
  case round =>
    obtain ⟨k, hk, rfl, hown, hfr, hnew⟩ := hrel
    have c1 := hfr.cell_some c0 (fun h => h)
    by_cases hlt : k < H.length
    · obtain ⟨ad, rfl, _, p0, p1, p2⟩ := hd_at (HO.out.fr (by omega) hfr (fun _ _ _ h => h)) k hlt
      have HOF := Lib.hid (ofH_next lo hlt)
      have HLE : Hid ((ofH (H.take k) lo).length ≤ 1000) := by
        have h1 : (ofH (H.take k) lo).length ≤ (H.take k).length := List.length_filter_le _ _
        rw [List.length_take] at h1
        show _ ≤ _
        omega
      generalize ofH (H.take k) lo = P at *
      generalize H[k] = x at *
      obtain ⟨xn, xa, xs⟩ := x
      simp only at p0 p1 p2 HOF
      have HOWN := Lib.hid hown
      have HFR := Lib.hid hfr
      have HNEW := Lib.hid hnew
      clear hown hfr hnew
      by_cases he : xa = lo
      · subst he
        have HOF2 : Hid (ofH (H.take (k + 1)) xa = P ++ [⟨xn, xa, xs⟩]) := by show _ = _; rw [HOF.out, if_pos rfl]
        have HBD : Hid (P.length + 1 ≤ maxLen ∧ (P.length + 1) * 32 ≤ 140737488355328) := ⟨by have := HLE.out; unfold maxLen; omega, by have := HLE.out; omega⟩
        clear HOF
        go_wp2_with (at_builtin; refine wpList_app _ rfl (.tmp 26) (.tmp 34) 123 123 rfl elHR (HOWN.out.alloc _) rfl (Src.of_new wr.heap.size (heap_alloc_new wr _) Tryz.underlying123 rfl (by simp [Value.oneCell'])) rfl HBD.out.1 HBD.out.2 ?_; intro v1 w1 hown1 hfr1 hnew1)
        go_roundw
        case rel =>
          refine ⟨k + 1, by omega, by go_num, ?_, ?_, ?_⟩
          · rw [HOF2.out, List.length_append, hds_append]
            exact hown1
          · exact fr_no (HFR.out.trans ((Fr.refl No _).alloc _)) HNEW.out hfr1
          · refine HNEW.out.trans (Newer.of hnew1) ?_
            have := HFR.out.size
            simp
            omega
        case measure => simp [intOf]; omega
      · have HOF2 : Hid (ofH (H.take (k + 1)) lo = P) := by show _ = _; rw [HOF.out, if_neg he]
        have hz : (xa == lo) = false := beq_eq_false_iff_ne.2 he
        have hz2 : ((⟨xa.toArray⟩ : ByteArray).toList == (⟨lo.toArray⟩ : ByteArray).toList) = false := by rw [ByteArray.toList_eq, ByteArray.toList_eq]; exact hz
        clear he HOF
        go_wp2
        go_roundw
        case rel => exact ⟨k + 1, by omega, by go_num, by rw [HOF2.out]; exact HOWN.out, HFR.out, HNEW.out⟩
        case measure => simp [intOf]; omega
    · obtain rfl : k = H.length := by omega
      rw [List.take_length] at hown
      have HOWN := Lib.hid hown
      have HFR := Lib.hid hfr
      have HNEW := Lib.hid hnew
      clear hown hfr hnew
      generalize ofH H lo = P at *
      go_wp2
      go_ret
      exact ⟨_, rfl, HOWN.out, HFR.out.mono (fun _ _ h => False.elim h), HNEW.out⟩
end Go.Proofs.YtjbeaoabhhaiiaaGreat
