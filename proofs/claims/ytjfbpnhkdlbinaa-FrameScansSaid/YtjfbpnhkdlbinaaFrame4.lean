/- Contracts of package frame: Frame, Scan. -/
import Derived.Test.YtjfbpnhkdlbinaaFrame3
import Derived.WalkMore
namespace Go.Proofs.Ytjfbpnhkdlbinaa
open Go.RowKit Go.My
set_option linter.unusedSimpArgs false
set_option linter.unusedVariables false

theorem frame_any (A : Option Addr) (c : Nat) (b : List UInt8) (w : World) (hr : Rd w (Lt w.heap.size) 1 A b.length (bs b)) (hl : b.length ≤ c) (hc : c ≤ maxLen) :
    Calls Try.prog 32 #[.slice A b.length c] w (RetWrap w [b]) := by
  have HRL : Hid (RdL (w.alloc (.cells #[.slice A b.length c] 25)) (some ⟨w.heap.size, 0, none⟩) [b]) := by
    refine ⟨[.slice A b.length c], ⟨rfl, fun _ => ⟨_, rfl, by simp [Lt], fun j u hu => ?_⟩⟩, fun j d hd => ?_⟩
    · have := World.news_of_block (heap_alloc_new w (.cells #[.slice A b.length c] 25))
      exact this j u hu
    · match j, hd with
      | 0, hd =>
        simp at hd
        subst hd
        exact ⟨A, c, rfl, (hr.below ((Below.refl _ _).alloc (Nat.le_refl _) _) fun _ h => h).more (fun k hk => by unfold Lt at *; simp; omega), hl, hc⟩
  go_enter Try.func32, Try.ntmps32
  go_wp2_with fail
  have h1 : ([b] : List (List UInt8)).length = 1 := rfl
  have hw := wrap_any (some ⟨w.heap.size, 0, none⟩) 1 [b] _ HRL.out (by simp)
  rw [h1] at hw
  refine hw.mono ?_
  rintro e w1 ⟨v, rfl, ho, hf, hn⟩
  go_wp2
  go_ret2
  have hf0 : Fr No w w1 := ((Fr.refl No w).alloc _).trans hf
  have hsz : w.heap.size ≤ (w.alloc (.cells #[.slice A b.length c] 25)).heap.size := by simp
  exact ⟨v, rfl, ho, hf0, Newer.trans (.inl rfl) hn hsz⟩

theorem elL : El Try.prog 47 25 1 24 := ⟨Try.underlying47, by
  have h : (Try.prog.info? 25).map (fun i => (i.zero, i.size, i.bytes)) = some (some (.slice none 0 0), 1, 24) := by kernel_rfl
  obtain ⟨i, hi, hz, hs, hb⟩ := info_parts h
  exact ⟨i, _, hi, hz, hs, hb, rfl⟩, by omega⟩

/-- cells that are slices of bytes, in blocks below B or of bytes -/
def Els (B : Nat) (w : World) (cells : List Value) (l : List (List UInt8)) : Prop :=
  cells.length = l.length ∧ ∀ (j : Nat) (d : List UInt8), l[j]? = some d → ∃ Aj cj, cells[j]? = some (.slice Aj d.length cj) ∧ RdT B 5 w Aj d.length (bs d) ∧ d.length ≤ cj ∧ cj ≤ maxLen
theorem Els.nil (B : Nat) (w : World) : Els B w [] [] := ⟨rfl, fun j d h => by simp at h⟩
theorem Els.fr {B : Nat} {a b : World} {S : Nat → Prop} {cells : List Value} {l : List (List UInt8)} (h : Els B a cells l) (hf : Fr S a b) (hS : ∀ k, S k → B ≤ k ∧ ∀ cur, ¬ Blk a k 5 cur) : Els B b cells l :=
  ⟨h.1, fun j d hd => by
    obtain ⟨Aj, cj, h1, h2, h3⟩ := h.2 j d hd
    exact ⟨Aj, cj, h1, h2.fr hf hS, h3⟩⟩
theorem Els.frNo {B : Nat} {a b : World} {cells : List Value} {l : List (List UInt8)} (h : Els B a cells l) (hf : Fr No a b) : Els B b cells l := h.fr hf fun _ h => h.elim
theorem Els.more {B : Nat} {w : World} {cells : List Value} {l : List (List UInt8)} (h : Els B w cells l) (A : Option Addr) (c : Nat) (d : List UInt8) (hr : RdT B 5 w A d.length (bs d)) (hl : d.length ≤ c) (hc : c ≤ maxLen) : Els B w (cells ++ [.slice A d.length c]) (l ++ [d]) := by
  refine ⟨by simp [h.1], fun j x hx => ?_⟩
  by_cases hj : j < l.length
  · rw [List.getElem?_append_left hj] at hx
    obtain ⟨Aj, cj, h1, h2⟩ := h.2 j x hx
    exact ⟨Aj, cj, by rw [List.getElem?_append_left (by rw [h.1]; exact hj)]; exact h1, h2⟩
  · rw [List.getElem?_append_right (by omega)] at hx
    have hjl : j - l.length = 0 := by
      rcases Nat.eq_zero_or_pos (j - l.length) with h0 | h0
      · exact h0
      · rw [List.getElem?_eq_none (by simp; omega)] at hx; cases hx
    rw [hjl] at hx
    simp at hx
    subst hx
    refine ⟨A, c, ?_, hr, hl, hc⟩
    rw [List.getElem?_append_right (by rw [h.1]; omega), h.1, hjl]
    rfl
theorem RdT.rd_lt {B : Nat} {t : TypeId} {w : World} {A : Option Addr} {n : Nat} {xs : List Value} (h : RdT B t w A n xs) : Rd w (Lt w.heap.size) 1 A n xs := by
  obtain ⟨F, hr, _⟩ := h
  exact Go.My.rd_lt hr (by omega)
theorem Els.rdl {B : Nat} {w : World} {cells : List Value} {l : List (List UInt8)} (h : Els B w cells l) {A : Option Addr} {F : Nat → Prop} (hr : Rd w F 1 A l.length cells) : RdL w A l :=
  ⟨cells, Go.My.rd_lt hr (by omega), fun j d hd => by
    obtain ⟨Aj, cj, h1, h2, h3⟩ := h.2 j d hd
    exact ⟨Aj, cj, h1, RdT.rd_lt h2, h3⟩⟩

def RetScan (w : World) (b : List UInt8) (e : Ending) (w' : World) : Prop :=
  ∃ A c, e = .returned (.tuple #[.slice A (scan b).1.length c, .int .i64 ((scan b).2.1 : Int), .int .i64 ((scan b).2.2 : Int)]) ∧ RdL w' A (scan b).1 ∧ (scan b).1.length ≤ c ∧ c ≤ maxLen ∧ Fr No w w'

def ScanRel (w : World) (b : List UInt8) (g : Nat) (lv av ev : Value) (wr : World) : Prop :=
  ∃ (done : List (List UInt8)) (at_ : Nat) (cells : List Value), at_ ≤ b.length ∧ av = .int .i64 at_ ∧ ev = .int .i64 0 ∧ Own wr 25 1 lv done.length cells ∧ Els w.heap.size wr cells done ∧
    scan b = (done ++ (scan (b.drop at_)).1, at_ + (scan (b.drop at_)).2.1, (scan (b.drop at_)).2.2) ∧ done.length ≤ at_ ∧ Fr No w wr ∧ Newer w.heap.size none lv.ownBlock ∧ Blk wr g 86 (tabRow 16)

set_option maxRecDepth 100000 in
set_option maxHeartbeats 2000000 in
theorem scan_any (A : Option Addr) (c : Nat) (b : List UInt8) (w : World) (hr : Rd w (Lt w.heap.size) 1 A b.length (bs b)) (hl : b.length ≤ c) (hc : c ≤ maxLen) (hsm : b.length ≤ 1000000000) :
    Calls Try.prog 38 #[.slice A b.length c] w (RetScan w b) := by
  have HR := Lib.hid hr
  have HM := Lib.hid hc
  have hc' : c ≤ 9223372036854775807 := by simp only [maxLen] at hc; omega
  clear hr hc
  go_enter Try.func38, Try.ntmps38
  go_wp2
  go_step3
  go_wp2_with fail
  refine (partials_any _).mono ?_
  rintro e w1 ⟨rfl, hb1⟩
  have hf1 : Fr No w w1 := Fr.of_below hb1 _
  have hs1 := hb1.size
  have hts := tab_store w1
  rw [tabRow0] at hts
  have hbk : Blk (w1.alloc (.cells (tabRow 16) 86)) w1.heap.size 86 (tabRow 16) := Blk.new _ _ _
  clear hb1
  go_wp2
  go_step3
  go_wp2
  have hstart : ScanRel w b w1.heap.size (.slice none 0 0) (.int .i64 0) (.int .i64 0) (w1.alloc (.cells (tabRow 16) 86)) :=
    ⟨[], 0, [], Nat.zero_le _, rfl, rfl, Own.nil _ _ _, Els.nil _ _, by simp, Nat.le_refl _, hf1.alloc _, .inl rfl, hbk⟩
  generalize w1.heap.size = g at *
  clear hbk hts hf1
  generalize w1.alloc _ = w2 at *
  go_loopw [6, 7, 8] (fun lv av ev wr => ScanRel w b g lv av ev wr) (fun _ av _ _ => b.length - (intOf av).toNat)
  case atStart => exact hstart
  case round =>
    clear hstart
    obtain ⟨done, k, cells, hk, rfl, rfl, ho, hE, hsc, hdk, hf, hn, hb⟩ := hrel
    by_cases hlt : k < b.length
    · have hrk := HR.out.cut (k := k) (cap := c) (by omega) hl
      rw [if_neg (by omega), Nat.mul_one, ← bs_drop] at hrk
      obtain ⟨ad, _, rfl, _⟩ := HR.out.at_ hlt
      have HRK : Hid (Rd w (Lt w.heap.size) 1 (some (ad.add k)) (b.drop k).length (bs (b.drop k))) := by rw [List.length_drop]; exact hrk
      have HSC := Lib.hid hsc
      have HE := Lib.hid hE
      have HO := Lib.hid ho
      have HB := Lib.hid hb
      obtain ⟨q0, q1, q2, q3, q4, q5, q6, q7, q8, q9, q10, q11, q12, q13, q14, q15⟩ := tab_cells hb
      clear hrk hsc hE ho hb
      have hnx := next_any (Lt w.heap.size) (some (ad.add k)) (c - k) (b.drop k) wr.drew (Rd.drewN (HRK.out.below hf.belowNo fun _ h => h) 1) (by simp; omega) (by have := HM.out; omega)
      rw [List.length_drop, tabRow16] at hnx
      have HNX : Hid (Calls Try.prog 62 #[.agg #[tv 0, tv 1, tv 2, tv 3, tv 4, tv 5, tv 6, tv 7, tv 8, tv 9, tv 10, tv 11, tv 12, tv 13, tv 14, tv 15], .slice (if c = k then some ad else some (ad.add k)) (b.length - k) (c - k)] wr.drew (RetNext wr.drew (Lt w.heap.size) (b.drop k))) := by
        have e : (if c = k then some ad else some (ad.add k)) = some (ad.add k) := if_neg (by omega)
        show Calls _ _ _ _ _
        rw [e]
        exact hnx
      clear hnx
      go_wp2_with fail
      go_region_with (go_at_call 62; refine HNX.out.mono ?_; rintro e w3 ⟨A3, c3, rfl, hr3, hl3, hm3, hb3⟩)
      have hf3 : Fr No w w3 := hf.drew.trans (Fr.of_below hb3 _)
      have ho3 : Own w3 25 1 u6 done.length cells := (Own.drew HO.out).below hb3 fun i hi => (Own.drew HO.out).lt i hi
      have hE3 : Els w.heap.size w3 cells done := Els.frNo (a := wr) HE.out ((Fr.refl No wr).drew.trans (Fr.of_below hb3 _))
      have hbx3 : Blk w3 g 86 (tabRow 16) := (Blk.drew HB.out).below hb3 (Blk.drew HB.out).lt
      have hr3' : Rd w3 (Lt w.heap.size) 1 A3 (nextF (b.drop k)).2.length (bs (nextF (b.drop k)).2) := hr3.below hb3 fun i hi => Nat.lt_of_lt_of_le hi hf.size
      have hne : b.drop k ≠ [] := fun h => by have := congrArg List.length h; simp at this; omega
      have hst := scan_step (b.drop k) hne
      clear hb3 hr3 HE HO HB HNX q0 q1 q2 q3 q4 q5 q6 q7 q8 q9 q10 q11 q12 q13 q14 q15
      by_cases h0 : (nextF (b.drop k)).1 = 0
      · rw [if_pos h0] at hst
        obtain ⟨⟨d1, d2⟩, heq⟩ := next_only (b.drop k) (nextF (b.drop k)).2 (Prod.ext h0 rfl)
        have hlen := congrArg List.length heq
        rw [List.length_append, frm_length, List.length_drop] at hlen
        rw [h0]
        have HST := Lib.hid hst
        clear hst heq h0
        generalize (nextF (b.drop k)).2 = d at *
        have hle : k + (6 + d.length) ≤ b.length := by omega
        clear hlen
        have hsrc : Src Try.prog w3 1 25 (.slice A3 d.length c3) d.length (bs d) := Src.of_rd hr3' (bs_one d) Try.underlying25
        have HS3 := hf3.size
        have hm3' : c3 ≤ 9223372036854775807 := by simp only [maxLen] at hm3; omega
        have hbp : done.length + 1 ≤ 1000000001 := by omega
        have hlt3 : Hid (∀ i, u6.ownBlock = some i → i < w3.heap.size) := ho3.lt
        clear hm3
        go_wp2_with (first
          | (at_builtin; refine wpList_app _ rfl (.const (.slice none 0 0)) (.tmp 27) 25 25 rfl elB (Own.nil _ _ _) rfl hsrc rfl (by simp only [maxLen]; omega) (by omega) ?_; intro v5 w5 ho5 hf5 hn5; rw [Nat.zero_add, List.nil_append] at ho5; obtain ⟨A5, c5, rfl, hl5, hm5⟩ := ho5.form
             have hE5 : Els w.heap.size w5 cells done := Els.frNo hE3 (fr_at_none hf5)
             have ho6 : Own (w5.alloc (.cells #[.slice A5 d.length c5] 25)) 25 1 u6 done.length cells := (ho3.fr (fr_at_none hf5) (fun _ _ h => h)).alloc _
             have hE6 : Els w.heap.size (w5.alloc (.cells #[.slice A5 d.length c5] 25)) (cells ++ [.slice A5 d.length c5]) (done ++ [d]) := (Els.frNo hE5 ((Fr.refl No w5).alloc _)).more A5 c5 d (RdT.of_own (ho5.alloc _)) hl5 hm5
             have hf6 : Fr No w (w5.alloc (.cells #[.slice A5 d.length c5] 25)) := (hf3.trans (fr_at_none hf5)).alloc _
             have hbx6 : Blk (w5.alloc (.cells #[.slice A5 d.length c5] 25)) g 86 (tabRow 16) := (hbx3.fr (fr_at_none hf5) (fun h => h)).alloc _
             have hsrc6 : Src Try.prog (w5.alloc (.cells #[.slice A5 d.length c5] 25)) 1 47 (.slice (some ⟨w5.heap.size, 0, none⟩) 1 1) 1 [.slice A5 d.length c5] := Src.of_new _ (heap_alloc_new _ _) Try.underlying47 rfl (by simp [Value.oneCell'])
             clear hE5 hE3 hf3 hbx3 ho5 hf5 hn5 ho3)
          | (at_builtin; refine wpList_app _ rfl (.tmp 26) (.tmp 29) 47 47 rfl elL ho6 rfl hsrc6 rfl (by simp only [maxLen]; omega) (by omega) ?_; intro v7 w7 ho7 hf7 hn7))
        have hE7 : Els w.heap.size w7 (cells ++ [.slice A5 d.length c5]) (done ++ [d]) := hE6.fr hf7 fun i hi => ⟨newer_none hn i hi, fun cur hc => by
          obtain ⟨cur', hb'⟩ := ho6.blk i hi
          exact Blk.ne_ hc hb' (by decide) rfl⟩
        refine ⟨⟨done ++ [d], k + (6 + d.length), cells ++ [.slice A5 d.length c5], hle, by go_num, rfl, by rw [List.length_append]; exact ho7, hE7, ?_, by simp; omega, fr_no hf6 hn hf7, hn.trans (Newer.of hn7) hf6.size, hbx6.fr hf7 (fun h => (ho6.ne_ hbx6 (by decide)) h)⟩, by simp [intOf]; omega⟩
        rw [HSC.out, HST.out, List.drop_drop]
        simp only [List.append_assoc, List.cons_append, List.nil_append, Prod.mk.injEq, true_and, and_true]
        omega
      · rw [if_neg h0] at hst
        have HST := Lib.hid hst
        have hz : (((nextF (b.drop k)).1 : Int) == 0) = false := by rw [beq_eq_false_iff_ne]; omega
        clear hst h0
        generalize (nextF (b.drop k)).1 = en at *
        generalize (nextF (b.drop k)).2 = d at *
        obtain ⟨A4, c4, rfl, hl4, hm4⟩ := ho3.form
        have hrl := hE3.rdl ho3.rd
        clear hE3 ho3 hbx3 hr3' hm3
        go_wp2
        go_ret3
        have hs := HSC.out
        rw [HST.out] at hs
        simp only [List.append_nil, Nat.add_zero] at hs
        unfold RetScan
        rw [hs]
        exact ⟨A4, c4, rfl, hrl, hl4, hm4, hf3⟩
    · obtain rfl : k = b.length := by omega
      obtain ⟨A4, c4, rfl, hl4, hm4⟩ := ho.form
      have hrl := hE.rdl ho.rd
      have HSC := Lib.hid hsc
      clear hE ho hb hsc
      go_wp2
      go_ret3
      have hs := HSC.out
      rw [List.drop_length, scan_nil] at hs
      simp only [List.append_nil, Nat.add_zero] at hs
      unfold RetScan
      rw [hs]
      exact ⟨A4, c4, rfl, hrl, hl4, hm4, hf⟩
end Go.Proofs.Ytjfbpnhkdlbinaa
