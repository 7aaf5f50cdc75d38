/- What the laws of package frame call: lives, early, few, Same. -/
import Derived.Test.YtjfbpnhkdlbinaaFrame4
import Derived.Test.YtjfbpnhkdlbinaaPackLaw2
import Derived.Lib.SlBytesConst
namespace Go.Proofs.Ytjfbpnhkdlbinaa
open Go.RowKit Go.My
set_option linter.unusedSimpArgs false
set_option linter.unusedVariables false

theorem sum_nine : sumF [49, 50, 51, 52, 53, 54, 55, 56, 57] = 3421780262 := by decide +kernel

theorem scan_lives : scan (wrapV [[1, 2], [3]]) = ([[1, 2], [3]], 15, 0) := by
  have h : AllOk [[1, 2], [3]] := by decide
  have e : wrapV [[1, 2], [3]] = wrapF [[1, 2], [3]] ++ [] := by rw [List.append_nil]; exact if_pos h
  rw [e, scan_wrap _ _ h, scan_nil]
  rfl
theorem wrap_lives : (wrapV [[1, 2], [3]]).length = 15 ∧ wrapE [[1, 2], [3]] = 0 := by
  have h : AllOk [[1, 2], [3]] := by decide
  exact ⟨by rw [show wrapV [[1, 2], [3]] = wrapF [[1, 2], [3]] from if_pos h]; rfl, if_pos h⟩
theorem wrap2 (A : Option Addr) (w : World) (hr : RdL w A [[1, 2], [3]]) :
    Calls Try.prog 34 #[.slice A 2 2] w (fun e w' => ∃ A' c', e = .returned (.tuple #[.slice A' 15 c', .int .i64 0]) ∧ Rd w' (Lt w'.heap.size) 1 A' (wrapV [[1, 2], [3]]).length (bs (wrapV [[1, 2], [3]])) ∧ 15 ≤ c' ∧ c' ≤ maxLen ∧ Fr No w w') := by
  have h := wrap_any A 2 [[1, 2], [3]] w hr (by simp)
  refine Calls.mono (h : Calls Try.prog 34 #[.slice A 2 2] w _) ?_
  rintro e w' ⟨v, rfl, ho, hf, hn⟩
  obtain ⟨A', c', rfl, h1, h2⟩ := ho.form
  have hrd := rd_lt ho.rd (by omega)
  rw [wrap_lives.1] at h1 ⊢
  rw [wrap_lives.1] at hrd
  exact ⟨A', c', by rw [wrap_lives.2]; rfl, hrd, h1, h2, hf⟩
theorem scan2 (A : Option Addr) (c : Nat) (w : World) (hr : Rd w (Lt w.heap.size) 1 A (wrapV [[1, 2], [3]]).length (bs (wrapV [[1, 2], [3]]))) (hl : 15 ≤ c) (hc : c ≤ maxLen) :
    Calls Try.prog 38 #[.slice A 15 c] w (fun e w' => ∃ A' c', e = .returned (.tuple #[.slice A' 2 c', .int .i64 15, .int .i64 0]) ∧ Fr No w w') := by
  have h := scan_any A c (wrapV [[1, 2], [3]]) w hr (by rw [wrap_lives.1]; exact hl) hc (by rw [wrap_lives.1]; omega)
  rw [wrap_lives.1] at h
  refine h.mono ?_
  rintro e w' ⟨A', c', rfl, _, _, _, hf⟩
  rw [scan_lives]
  exact ⟨A', c', rfl, hf⟩
theorem sum9 (w : World) (A : Option Addr) (hr : Rd w (Lt w.heap.size) 1 A 9 (bs [49, 50, 51, 52, 53, 54, 55, 56, 57])) :
    Calls Try.prog 36 #[.slice A 9 9] w (fun e w' => e = .returned (.int .u32 3421780262) ∧ Below w.heap.size w w') := by
  have h := sumf_any _ A 9 [49, 50, 51, 52, 53, 54, 55, 56, 57] w hr (by simp)
  rw [sum_nine] at h
  exact h

set_option maxHeartbeats 1000000 in
theorem livesF (w : World) : Calls Try.prog 29 #[] w (RetTrue w) := by
  have HRL : Hid (RdL (((w.alloc (.cells #[.int .u8 1, .int .u8 2] 5)).alloc (.cells #[.int .u8 3] 5)).alloc (.cells #[.slice (some ⟨w.heap.size, 0, none⟩) 2 2, .slice (some ⟨w.heap.size + 1, 0, none⟩) 1 1] 25)) (some ⟨w.heap.size + 1 + 1, 0, none⟩) [[1, 2], [3]]) := by
    have n3 := World.news_of_block (heap_alloc_new ((w.alloc (.cells #[.int .u8 1, .int .u8 2] 5)).alloc (.cells #[.int .u8 3] 5)) (.cells #[.slice (some ⟨w.heap.size, 0, none⟩) 2 2, .slice (some ⟨w.heap.size + 1, 0, none⟩) 1 1] 25))
    have b1 := ((Blk.new w 5 #[.int .u8 1, .int .u8 2]).alloc (.cells #[.int .u8 3] 5)).alloc (.cells #[.slice (some ⟨w.heap.size, 0, none⟩) 2 2, .slice (some ⟨w.heap.size + 1, 0, none⟩) 1 1] 25)
    have b2 := (Blk.new (w.alloc (.cells #[.int .u8 1, .int .u8 2] 5)) 5 #[.int .u8 3]).alloc (.cells #[.slice (some ⟨w.heap.size, 0, none⟩) 2 2, .slice (some ⟨w.heap.size + 1, 0, none⟩) 1 1] 25)
    refine ⟨[.slice (some ⟨w.heap.size, 0, none⟩) 2 2, .slice (some ⟨w.heap.size + 1, 0, none⟩) 1 1], ⟨rfl, fun _ => ⟨_, rfl, by simp [Lt], fun j u hu => ?_⟩⟩, fun j d hd => ?_⟩
    · simp only [World.size_alloc] at n3
      exact n3 j u hu
    · match j, hd with
      | 0, hd =>
        simp at hd
        subst hd
        exact ⟨_, 2, rfl, ⟨rfl, fun _ => ⟨_, rfl, by simp [Lt]; omega, World.news_of_block b1⟩⟩, by simp, by simp [maxLen]⟩
      | 1, hd =>
        simp at hd
        subst hd
        have n2 := World.news_of_block b2
        simp only [World.size_alloc] at n2
        exact ⟨_, 1, rfl, ⟨rfl, fun _ => ⟨_, rfl, by simp [Lt], n2⟩⟩, by simp, by simp [maxLen]⟩
  go_enter Try.func29, Try.ntmps29
  go_wp2_with fail
  refine (wrap2 _ _ HRL.out).mono ?_
  rintro e w1 ⟨A1, c1, rfl, hr1, hl1, hm1, hf1⟩
  have hf1' : Fr No w w1 := (((Fr.refl No w).alloc _).alloc _).alloc _ |>.trans hf1
  clear hf1 HRL
  go_wp2_with fail
  refine (scan2 _ _ _ hr1 hl1 hm1).mono ?_
  rintro e w2 ⟨A2, c2, rfl, hf2⟩
  have hf2' : Fr No w w2 := hf1'.trans hf2
  have hs := hf2'.size
  clear hf2 hf1' hr1
  have hb : Below w.heap.size w (w2.alloc (.cells #[.int .u8 49, .int .u8 50, .int .u8 51, .int .u8 52, .int .u8 53, .int .u8 54, .int .u8 55, .int .u8 56, .int .u8 57] 5 (9, 10))) := (hf2'.alloc _).belowNo
  have HR9 : Hid (Rd (w2.alloc (.cells #[.int .u8 49, .int .u8 50, .int .u8 51, .int .u8 52, .int .u8 53, .int .u8 54, .int .u8 55, .int .u8 56, .int .u8 57] 5 (9, 10))) (Lt (w2.alloc (.cells #[.int .u8 49, .int .u8 50, .int .u8 51, .int .u8 52, .int .u8 53, .int .u8 54, .int .u8 55, .int .u8 56, .int .u8 57] 5 (9, 10))).heap.size) 1 (some ⟨w2.heap.size, 0, none⟩) 9 (bs [49, 50, 51, 52, 53, 54, 55, 56, 57])) :=
    ⟨rfl, fun _ => ⟨_, rfl, by simp [Lt], fun j u hu => by
      have hadd : (⟨w2.heap.size, 0, none⟩ : Addr).add j = ⟨w2.heap.size, j, none⟩ := by unfold Addr.add; split <;> simp_all
      rw [hadd, cell_of_row _ w2.heap.size j _ 5 (9, 10) (heap_alloc_new w2 _), ← Array.getElem?_toList]
      exact hu⟩⟩
  have kc := fun (w : World) (C : Array Value) (n c : Nat) => Lib.run_convert_bytes_const (P := Try.prog) w 25 5 C n c Try.underlying25 Try.underlying5
  go_wp2_with (go_at_call 36; refine (sum9 _ _ HR9.out).mono ?_; rintro e w3 ⟨rfl, hb3⟩)
  go_ret
  exact ⟨rfl, below_fresh hb hb3 (by simp; omega)⟩

theorem early3_any (A : Option Addr) (n c : Nat) (w : World) (h1 : n ≤ c) (h2 : c ≤ maxLen) :
    Calls Try.prog 30 #[.slice A n c] w fun e w' => e = .returned (.slice A (min n 5000) c) ∧ w = w' := by
  unfold maxLen at h2
  go_enter Try.func30, Try.ntmps30
  go_wp2
  all_goals go_ret
  · exact ⟨by rw [show min n 5000 = 5000 by omega]; rfl, rfl⟩
  · exact ⟨by rw [show min n 5000 = n by omega]; rfl, rfl⟩

def fewF (l : List (List UInt8)) : List (List UInt8) := (l.take 20).map (·.take 300)
theorem fewF_length (l : List (List UInt8)) : (fewF l).length = min l.length 20 := by simp [fewF]; omega
theorem fewF_get (l : List (List UInt8)) (k : Nat) (h : k < l.length) (h2 : k < 20) : (fewF l)[k]? = some (l[k].take 300) := by
  simp [fewF, List.getElem?_take, h2, h]
def FewRel (w : World) (l : List (List UInt8)) (ov iv : Value) (wr : World) : Prop :=
  ∃ (k : Nat) (cells : List Value), k ≤ (fewF l).length ∧ iv = .int .i64 k ∧ Own wr 25 1 ov k cells ∧ Els w.heap.size wr cells ((fewF l).take k) ∧ Fr No w wr ∧ Newer w.heap.size none ov.ownBlock
def RetFew (w : World) (l : List (List UInt8)) (e : Ending) (w' : World) : Prop :=
  ∃ A' c', e = .returned (.slice A' (fewF l).length c') ∧ RdL w' A' (fewF l) ∧ (fewF l).length ≤ c' ∧ c' ≤ maxLen ∧ Fr No w w'

set_option maxRecDepth 100000 in
set_option maxHeartbeats 1000000 in
theorem few_any (A : Option Addr) (c : Nat) (l : List (List UInt8)) (w : World) (hr : RdL w A l) (hc : l.length ≤ c) (hm : c ≤ maxLen) :
    Calls Try.prog 31 #[.slice A l.length c] w (RetFew w l) := by
  have HR := Lib.hid hr
  have hl' : l.length ≤ 9223372036854775807 := by simp only [maxLen] at hm; omega
  have hfl := fewF_length l
  clear hr hm hc
  go_enter Try.func31, Try.ntmps31
  go_wp2
  have hstart : FewRel w l (.slice none 0 0) (.int .i64 0) w := ⟨0, [], Nat.zero_le _, rfl, Own.nil _ _ _, by rw [List.take_zero]; exact Els.nil _ _, Fr.refl _ _, .inl rfl⟩
  go_loopw [3, 4] (fun o i wr => FewRel w l o i wr) (fun _ i _ => (fewF l).length - (intOf i).toNat)
  case atStart => exact hstart
  case round =>
    clear hstart
    obtain ⟨k, cells, hk, rfl, ho, hE, hf, hn⟩ := hrel
    by_cases hlt : k < (fewF l).length
    · have t1 : (k : Int) < l.length := by omega
      have t2 : (k : Int) < 20 := by omega
      have hkl : k < l.length := by omega
      obtain ⟨ad, Aj, cj, rfl, hcell, hrd, hlc, hcm⟩ := HR.out.at_ hkl
      replace hcell := (hf.belowNo.cell (p := ad.add k) (World.block_lt_of_cell? w _ hcell)).trans hcell
      have hget := fewF_get l k hkl (by omega)
      have htk : (fewF l).take (k + 1) = (fewF l).take k ++ [l[k].take 300] := by
        rw [List.getElem?_eq_getElem hlt] at hget
        injection hget with hget
        rw [List.take_succ_eq_append_getElem hlt, hget]
      have HT := Lib.hid htk
      have HRD := Lib.hid hrd
      have HCM := Lib.hid hcm
      have hcj : cj ≤ 9223372036854775807 := by simp only [maxLen] at hcm; omega
      generalize l[k] = d at *
      have hdl : d.length ≤ 9223372036854775807 := by omega
      obtain ⟨m, hm⟩ : ∃ m, m = min d.length 300 := ⟨_, rfl⟩
      have hmd : (d.take 300).length = m := by simp; omega
      have HMD := Lib.hid hmd
      have hE2 : ∀ W : World, Fr No w W → Els w.heap.size W cells ((fewF l).take k) → Els w.heap.size W (cells ++ [.slice Aj m cj]) ((fewF l).take (k + 1)) := by
        intro W hW hEW
        rw [htk]
        have := hEW.more Aj cj (d.take 300) (RdT.of_lt (w := W) (by
          have h1 := (hrd.below hW.belowNo fun _ h => h).take (k := (d.take 300).length) (by simp; omega)
          rw [Nat.mul_one, ← bs_take] at h1
          have e : d.take (d.take 300).length = d.take 300 := by simp
          rw [e] at h1
          exact h1)) (by omega) hcm
        rwa [hmd] at this
      have HE2 := Lib.hid hE2
      have HE := Lib.hid hE
      clear htk hget hrd hcm hE2 hE hmd
      have hkk : k + 1 ≤ 20 := by omega
      have HEND : Hid (∀ v1 w1, Own w1 25 1 v1 (k + 1) (cells ++ [.slice Aj m cj]) → Fr (AtO u3.ownBlock) (wr.drew.alloc (.cells #[.slice Aj m cj] 25)) w1 → (v1.ownBlock = u3.ownBlock ∨ v1.ownBlock = some (wr.drew.alloc (.cells #[.slice Aj m cj] 25)).heap.size) → FewRel w l v1 (.int .i64 ((k : Int) + 1)) w1) := by
        intro v1 w1 ho1 hf1 hn1
        have hs := hf.size
        have hf2 : Fr No w (wr.drew.alloc (.cells #[.slice Aj m cj] 25)) := hf.drew.alloc _
        have hf3 : Fr No w w1 := fr_no hf2 hn hf1
        have ho0 : Own (wr.drew.alloc (.cells #[.slice Aj m cj] 25)) 25 1 u3 k cells := ho.drew.alloc _
        have hE1 : Els w.heap.size (wr.drew.alloc (.cells #[.slice Aj m cj] 25)) cells ((fewF l).take k) := Els.frNo (a := wr) HE.out ((Fr.refl No wr).drew.alloc _)
        have hE3 : Els w.heap.size w1 cells ((fewF l).take k) := hE1.fr hf1 fun i hi => ⟨newer_none hn i hi, fun cur hc => by
          obtain ⟨cur', hb'⟩ := ho0.blk i hi
          exact Blk.ne_ hc hb' (by decide) rfl⟩
        exact ⟨k + 1, _, by omega, by go_num, ho1, HE2.out w1 hf3 hE3, hf3, hn.trans (Newer.of hn1) (by simp; omega)⟩
      by_cases h3 : 300 < d.length
      · have h3' : (300 : Int) < d.length := by omega
        obtain rfl : m = 300 := by omega
        have hcj3 : (300 : Int) ≤ cj := by omega
        clear hm
        go_wp2_with fail
        go_region_law (refine step_app _ rfl (.tmp 15) (.tmp 27) 47 47 rfl elL (by exact (ho.drew.alloc _)) rfl (by exact Src.of_new wr.heap.size (heap_alloc_new wr _) Try.underlying47 rfl (by simp [Value.oneCell'])) rfl (by simp only [maxLen]; omega) (by omega) ?_; intro v1 w1 ho1 hf1 hn1)
        all_goals
          go_wp2
          go_roundw
          case rel => exact HEND.out _ _ ho1 hf1 hn1
          case measure => simp [intOf]; omega
      · have h3' : ¬ (300 : Int) < d.length := by omega
        obtain rfl : m = d.length := by omega
        have hcj3 : (d.length : Int) ≤ cj := by omega
        have hif : (if (300 : Int) < (d.length : Int) then (300 : Int) else (d.length : Int)) = (d.length : Int) := if_neg h3'
        clear hm
        go_wp2_with fail
        go_region_law (refine step_app _ rfl (.tmp 15) (.tmp 27) 47 47 rfl elL (by exact (ho.drew.alloc _)) rfl (by exact Src.of_new wr.heap.size (heap_alloc_new wr _) Try.underlying47 rfl (by simp [Value.oneCell'])) rfl (by simp only [maxLen]; omega) (by omega) ?_; intro v1 w1 ho1 hf1 hn1)
        all_goals
          go_wp2
          go_roundw
          case rel => exact HEND.out _ _ ho1 hf1 hn1
          case measure => simp [intOf]; omega
    · obtain rfl : k = (fewF l).length := by omega
      rw [List.take_length] at hE
      obtain ⟨A4, c4, rfl, hl4, hm4⟩ := ho.form
      have hrl := hE.rdl ho.rd
      have hlen := hfl
      have HFIN : Hid (RetFew w l (.returned (.slice A4 (fewF l).length c4)) wr) := ⟨A4, c4, rfl, hrl, hl4, hm4, hf⟩
      clear hE ho hrl hl4 hm4 hf hn
      generalize (fewF l).length = n at *
      by_cases q1 : n < l.length
      · have t1 : (n : Int) < l.length := by omega
        have t2 : ¬ (n : Int) < 20 := by omega
        clear hfl hlen
        go_wp2
        go_ret
        exact HFIN.out
      · have t1 : ¬ (n : Int) < l.length := by omega
        clear hfl hlen
        go_wp2
        go_ret
        exact HFIN.out

theorem sameL_any (A B : Option Addr) (c d : Nat) (l r : List (List UInt8)) (w : World) (hl : RdL w A l) (hr : RdL w B r) (hsz : l.length ≤ 1000000000) :
    Calls Try.prog 40 #[.slice A l.length c, .slice B r.length d] w fun e w' => e = .returned (.bool (decide (l = r))) ∧ ∃ n, w' = w.drewN n := by
  by_cases hlen : l.length = r.length
  · have hz : ((l.length : Int) != (r.length : Int)) = false := by rw [bne_eq_false_iff_eq]; omega
    have HL := Lib.hid hlen
    have HA := Lib.hid hl
    have HB := Lib.hid hr
    clear hlen hl hr
    go_enter Try.func40, Try.ntmps40
    go_wp2
    go_loopw [5] (fun a wr => ∃ k j : Nat, k ≤ l.length ∧ a = .int .i64 k ∧ l.take k = r.take k ∧ wr = w.drewN j) (fun a _ => l.length - (intOf a).toNat)
    case atStart => exact ⟨0, 0, Nat.zero_le _, rfl, rfl, rfl⟩
    case round =>
      obtain ⟨k, j, hk, rfl, heq, rfl⟩ := hrel
      have HE := Lib.hid heq
      clear heq
      by_cases hlt : k < l.length
      · have hlt2 : k < r.length := by have := HL.out; omega
        obtain ⟨ad, Aj, cj, rfl, hc, hrd, _, _⟩ := HA.out.at_ hlt
        obtain ⟨bd, Bj, dj, rfl, hc2, hrd2, _, _⟩ := HB.out.at_ hlt2
        have e1 : l.take (k + 1) = l.take k ++ [l[k]] := List.take_succ_eq_append_getElem hlt
        have e2 : r.take (k + 1) = r.take k ++ [r[k]] := List.take_succ_eq_append_getElem hlt2
        have hc' : (w.drewN j).cell? (ad.add k) = some (.slice Aj l[k].length cj) := hc
        have hc2' : (w.drewN j).cell? (bd.add k) = some (.slice Bj r[k].length dj) := hc2
        have hstr1 := fun n => run_str_of_bytes (P := Try.prog) (w := w.drewN n) (c := cj) 25 9 5 Try.underlying25 Try.underlying5 Try.underlying9 (Rd.drewN hrd n)
        have hstr2 := fun n => run_str_of_bytes (P := Try.prog) (w := w.drewN n) (c := dj) 25 9 5 Try.underlying25 Try.underlying5 Try.underlying9 (Rd.drewN hrd2 n)
        by_cases hxy : l[k] = r[k]
        · have hb : (l[k] == r[k]) = true := by rw [beq_iff_eq]; exact hxy
          have E : Hid (l.take (k + 1) = r.take (k + 1)) := by show _ = _; rw [e1, e2, HE.out, hxy]
          clear e1 e2 hxy hrd hrd2
          generalize l[k] = x at *
          generalize r[k] = y at *
          go_wp2
          go_quiet (fail)
          go_wp2
          go_roundw
          case rel => exact ⟨k + 1, _, by omega, by go_num, E.out, rfl⟩
          case measure => simp [intOf]; omega
        · have hb : (l[k] == r[k]) = false := by rw [beq_eq_false_iff_ne]; exact hxy
          have E : Hid (l ≠ r) := by
            intro h
            subst h
            exact hxy rfl
          clear e1 e2 hxy hrd hrd2
          generalize l[k] = x at *
          generalize r[k] = y at *
          go_wp2
          go_quiet (fail)
          go_wp2
          go_ret
          exact ⟨by rw [decide_eq_false E.out]; rfl, _, World.drewN_drewN _ _ _⟩
      · have : k = l.length := by omega
        subst this
        go_wp2
        go_ret
        have h1 := HE.out
        rw [List.take_length, HL.out, List.take_length] at h1
        exact ⟨by rw [decide_eq_true h1]; rfl, _, rfl⟩
  · have hz : ((l.length : Int) != (r.length : Int)) = true := by rw [bne_iff_ne]; omega
    have HL := Lib.hid hlen
    clear hlen hl hr
    go_enter Try.func40, Try.ntmps40
    go_wp2
    go_ret
    exact ⟨by rw [decide_eq_false (fun h => HL.out (by rw [h]))]; rfl, 0, rfl⟩
end Go.Proofs.Ytjfbpnhkdlbinaa
