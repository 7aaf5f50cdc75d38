/- slices.Concat over legs; lists of lists of legs in memory. -/
import Derived.Test.YtpaeohmoecdniabVouLg
namespace Go.My
open Go.RowKit
set_option linter.unusedSimpArgs false
set_option linter.unusedVariables false
/-- 'append(nil, make([]T, m)...)' -/
theorem run_app_make {P : Program} (w : World) (t u ty e : TypeId) (size bytes : Nat) (he : El P t e size bytes) (hu : P.underlying u = some (.int .i64)) (m : Nat) (hm : 0 < m) (h63 : m ≤ maxLen) (hbytes : m * bytes ≤ 140737488355328) :
    ∃ cap w' xs, (Builtin.append_ #[t, u] ty #[.slice none 0 0, .int .i64 (m : Int)]).run P w = .ok (.slice (some ⟨w.heap.size, 0, none⟩) m cap) w' ∧ Own w' e size (.slice (some ⟨w.heap.size, 0, none⟩) m cap) m xs ∧ Fr No w w' ∧ m ≤ cap ∧ cap ≤ maxLen := by
  obtain ⟨ht, ⟨i, z, hi, hz, hsize, hby, hzs⟩, hpos⟩ := he
  subst hsize
  subst hby
  have h63' : ¬ (9223372036854775807 < (m : Int)) := by simp only [maxLen] at h63; omega
  have hwr : IntKind.i64.wrap (m : Int) = (m : Int) := IntWalk.i64_in _ (by simp only [maxLen] at h63; omega)
  have hneg : ¬ ((m : Int) < 0) := by omega
  have hbi : ¬ (281474976710656 < (m : Int) * (i.bytes : Int)) := by
    have h : ((m * i.bytes : Nat) : Int) ≤ 140737488355328 := by omega
    rw [Int.natCast_mul] at h
    omega
  have h48' : ¬ (281474976710656 < Builtin.nextslicecap m 0 * i.bytes) := by rw [nextslicecap_zero (by omega)]; omega
  have hms : ¬ (m * i.size = 0) := by
    have := Nat.mul_pos hm hpos
    omega
  have hm0 : ¬ (m = 0) := by omega
  have hi0 : ¬ (i.size = 0) := by omega
  have hge := grownCap_ge w m 0 e
  have hcm : grownCap w m 0 e ≤ maxLen := grownCap_le_maxLen w m 0 e h63
  refine ⟨grownCap w m 0 e, w.drew.alloc (.cells (Builtin.zeroCells z.cells m ++ Builtin.zeroCells z.cells (grownCap w m 0 e - m)) e), (Builtin.zeroCells z.cells m).toList, ?_, ⟨by rw [Array.length_toList, size_zeroCells, hzs], .inr ⟨w.heap.size, _, _, rfl, heap_alloc_new w.drew _, hge, hcm, ?_, ?_⟩⟩, ((Fr.refl No w).drew).alloc _, hge, hcm⟩
  · simp [Builtin.append_, run_underlying ht, run_underlying hu, sizeOf, typeInfo, zeroValue, hi, hz, asInt, asIntOf, hwr, hneg, hbi, hms, hm0, hi0, h63', h48', Question.forced, run_firstCells_none, newRow, grownCap]
  · simp only [Array.size_append, size_zeroCells, hzs, ← Nat.add_mul]
    exact Nat.mul_le_mul_right _ (by omega)
  · simp only [Array.toList_append]
    exact List.take_left' (by rw [Array.length_toList, size_zeroCells, hzs])
theorem wpList_app_make {P : Program} (w : World) {ops : Array Oper} {rest : List Oper} {o : Oper} {a : Act} {Q : Exit → Act → World → Prop} (hgd : o.guard = none) (s x : Operand) (t u : TypeId)
    (ho : o.op = .call { callee := .builtin .append, args := #[s, x], argTypes := #[t, u] })
    {e : TypeId} {size bytes : Nat} (he : El P t e size bytes) (hu : P.underlying u = some (.int .i64)) (m : Nat) (hm : 0 < m) (hs : a.eval s = .slice none 0 0) (hx : a.eval x = .int .i64 (m : Int)) (h63 : m ≤ maxLen) (hbytes : m * bytes ≤ 140737488355328)
    (h : ∀ cap w' xs, Own w' e size (.slice (some ⟨w.heap.size, 0, none⟩) m cap) m xs → Fr No w w' → m ≤ cap → cap ≤ maxLen → wpList P ops Q rest (a.put o.dst (.slice (some ⟨w.heap.size, 0, none⟩) m cap)) w') : wpList P ops Q (o :: rest) a w := by
  refine wpList_plain hgd fun K hK => ?_
  obtain ⟨cap, w', xs, hr, h2, h3, h4, h5⟩ := run_app_make (P := P) w t u o.type e size bytes he hu m hm h63 hbytes
  unfold Oper.wp execOp
  simp only [ho, resolve, invoke, builtin, Sem.run_bind, Sem.run_pure, Result.andThen_ok, List.map_toArray, List.map_cons, List.map_nil, hs, hx, hr]
  exact hK _ _ (h cap w' xs h2 h3 h4 h5)
/-- the first none of a row of the call's own -/
theorem Own.zero {w : World} {e : TypeId} {size n c : Nat} {A : Option Addr} {xs : List Value} (h : Own w e size (.slice A n c) n xs) : Own w e size (.slice A 0 c) 0 [] := by
  refine ⟨by simp, ?_⟩
  rcases h.2 with ⟨h0, h1⟩ | ⟨g, cap, cur, hv, hg, h1, h2, h3, h4⟩
  · injection h0 with h0 _ h2
    subst h0 h2
    exact .inl ⟨rfl, rfl⟩
  · injection hv with hA hn hc
    subst hA hc
    exact .inr ⟨g, c, cur, rfl, hg, Nat.zero_le _, h2, h3, by simp⟩
end Go.My
namespace Go.Proofs.Ytpaeohmoecdniab
open Go.RowKit Go.My Go.Maps
set_option linter.unusedSimpArgs false
set_option linter.unusedVariables false
attribute [local go_sem ↓] Go.wp_at_zero Go.wp_at_succ

def Any : Nat → Prop := fun _ => True
/-- a list of lists of legs, in memory -/
def LsS (w : World) (A : Option Addr) (Ls : List (List Lg)) : Prop :=
  ∃ cells, Rd w Any 1 A Ls.length cells ∧ ∀ i (h : i < Ls.length), ∃ A' c', cells[i]? = some (.slice A' Ls[i].length c') ∧ Rd w Any 2 A' Ls[i].length (lgs Ls[i])
theorem LsS.at_ {w : World} {A : Option Addr} {Ls : List (List Lg)} (h : LsS w A Ls) (i : Nat) (hi : i < Ls.length) : ∃ ad A' c', A = some ad ∧ w.cell? (ad.add i) = some (.slice A' Ls[i].length c') ∧ Rd w Any 2 A' Ls[i].length (lgs Ls[i]) := by
  obtain ⟨cells, h1, h2⟩ := h
  obtain ⟨A', c', h3, h4⟩ := h2 i hi
  obtain ⟨ad, u, rfl, _, h5, h6⟩ := h1.at_ hi
  rw [h3] at h5
  injection h5 with h5
  subst h5
  exact ⟨ad, A', c', rfl, h6, h4⟩
theorem LsS.fr {w w' : World} {A : Option Addr} {Ls : List (List Lg)} (h : LsS w A Ls) (hf : Fr No w w') : LsS w' A Ls := by
  obtain ⟨cells, h1, h2⟩ := h
  refine ⟨cells, h1.fr (by omega) hf (fun _ _ _ h => h), fun i hi => ?_⟩
  obtain ⟨A', c', h3, h4⟩ := h2 i hi
  exact ⟨A', c', h3, h4.fr (by omega) hf (fun _ _ _ h => h)⟩

set_option maxRecDepth 100000 in
set_option maxHeartbeats 1000000 in
theorem grow_any (n : Nat) (w : World) (hn : n ≤ 1000) :
    Calls Try.prog 66 #[.slice none 0 0, .int .i64 n] w (RetOwn w 47 2 none 0 []) := by
  by_cases h0 : 0 < n
  · have hX : Hid (n ≤ maxLen ∧ n * 24 ≤ 140737488355328) := by
      refine ⟨?_, ?_⟩ <;> (try simp only [maxLen]) <;> omega
    go_enter Try.func66, Try.ntmps66
    go_wp2_with (at_builtin; refine wpList_app_make _ rfl (.tmp 20) (.tmp 21) 23 3 rfl elL Try.underlying3 n h0 rfl rfl hX.out.1 hX.out.2 ?_; intro cap w1 xs hown hfr hc1 hc2)
    go_ret
    exact ⟨_, rfl, hown.zero, hfr.mono (fun _ _ h => False.elim h), .inr ⟨_, rfl, Nat.le_refl _⟩⟩
  · obtain rfl : n = 0 := by omega
    go_enter Try.func66, Try.ntmps66
    go_wp2
    go_ret
    exact ⟨_, rfl, Own.nil _ _ _, Fr.refl _ _, .inl rfl⟩

/-- all lists, one behind the other -/
def flatL (Ls : List (List Lg)) : List Lg := Ls.flatten
theorem flat_take {Ls : List (List Lg)} {k : Nat} (h : k < Ls.length) : flatL (Ls.take (k + 1)) = flatL (Ls.take k) ++ Ls[k] := by
  unfold flatL
  rw [List.take_succ_eq_append_getElem h, List.flatten_append]
  simp
theorem flat_le {Ls : List (List Lg)} (k : Nat) : (flatL (Ls.take k)).length ≤ (flatL Ls).length := by
  have e : Ls = Ls.take k ++ Ls.drop k := (List.take_append_drop k Ls).symm
  have : flatL Ls = flatL (Ls.take k) ++ flatL (Ls.drop k) := by unfold flatL; rw [← List.flatten_append, ← e]
  rw [this, List.length_append]
  omega
def CcRel (w : World) (Ls : List (List Lg)) (sz iv : Value) (wr : World) : Prop := ∃ k : Nat, k ≤ Ls.length ∧ iv = .int .i64 k ∧ sz = .int .i64 ((flatL (Ls.take k)).length : Nat) ∧ wr = w
def CdRel (w : World) (Ls : List (List Lg)) (lv iv : Value) (wr : World) : Prop := ∃ k : Nat, k ≤ Ls.length ∧ iv = .int .i64 k ∧ Own wr 47 2 lv (flatL (Ls.take k)).length (lgs (flatL (Ls.take k))) ∧ Fr No w wr ∧ Newer w.heap.size none lv.ownBlock

set_option maxRecDepth 100000 in
set_option maxHeartbeats 1000000 in
theorem concat_any (A : Option Addr) (c : Nat) (Ls : List (List Lg)) (w : World) (h : LsS w A Ls) (hl : Ls.length ≤ 100) (hL : (flatL Ls).length ≤ 1000) :
    Calls Try.prog 46 #[.slice A Ls.length c] w (RetOwn w 47 2 none (flatL Ls).length (lgs (flatL Ls))) := by
  have HH := Lib.hid h
  have HLE : Hid (∀ k, (flatL (Ls.take k)).length ≤ (flatL Ls).length) := fun k => flat_le k
  clear h
  go_enter Try.func46, Try.ntmps46
  go_wp2
  go_loopw [3, 11] (fun sz iv wr => CcRel w Ls sz iv wr) (fun _ iv _ => Ls.length - (intOf iv).toNat)
  case atStart => exact ⟨0, Nat.zero_le _, rfl, rfl, rfl⟩
  case round =>
    obtain ⟨k, hk, rfl, rfl, rfl⟩ := hrel
    by_cases hlt : k < Ls.length
    · obtain ⟨ad, A', c', rfl, q0, _⟩ := HH.out.at_ k hlt
      have h1 := HLE.out (k + 1)
      have E : Hid ((flatL (Ls.take (k + 1))).length = (flatL (Ls.take k)).length + Ls[k].length) := by show _ = _; rw [flat_take hlt, List.length_append]
      rw [E.out] at h1
      generalize Ls[k].length = m at *
      generalize (flatL (Ls.take k)).length = n at *
      have hn0 : ¬ ((n : Int) + (m : Int)) < 0 := by omega
      go_wp2
      go_roundw
      case rel => exact ⟨k + 1, by omega, by go_num, by rw [E.out]; go_num, rfl⟩
      case measure => simp [intOf]; omega
    · obtain rfl : k = Ls.length := by omega
      rw [List.take_length]
      obtain ⟨wo, rfl⟩ : ∃ wo : World, wo = wr := ⟨_, rfl⟩
      have HG := Lib.hid (grow_any (flatL Ls).length wo hL)
      go_wp2_with fail
      refine HG.out.mono ?_
      rintro e w1 ⟨v1, rfl, ho1, hf1', hn1⟩
      have hf1 := fr_at_none hf1'
      have HO1 := Lib.hid ho1
      have HF1 := Lib.hid hf1
      have HN1 := Lib.hid hn1
      clear ho1 hf1 hf1' hn1 HG
      go_wp2
      go_loopw [6, 27] (fun lv iv wx => CdRel wo Ls lv iv wx) (fun _ iv _ => Ls.length - (intOf iv).toNat)
      case atStart => exact ⟨0, Nat.zero_le _, rfl, HO1.out, HF1.out, HN1.out⟩
      case round =>
        obtain ⟨k, hk, rfl, hown, hfr, hnew⟩ := hrel
        by_cases hlt : k < Ls.length
        · obtain ⟨ad, A', c', rfl, q0, hr⟩ := (HH.out.fr hfr).at_ k hlt
          have h1 := HLE.out (k + 1)
          have E : Hid ((flatL (Ls.take (k + 1))).length = (flatL (Ls.take k)).length + Ls[k].length) := by show _ = _; rw [flat_take hlt, List.length_append]
          have E2 : Hid (lgs (flatL (Ls.take (k + 1))) = lgs (flatL (Ls.take k)) ++ lgs Ls[k]) := by show _ = _; rw [flat_take hlt, lgs_append]
          have HS : Hid (Src Try.prog wr 2 23 (.slice A' Ls[k].length c') Ls[k].length (lgs Ls[k])) := Src.of_rd hr (lgs_ones _) Try.underlying23
          rw [E.out] at h1
          have hX : Hid ((flatL (Ls.take k)).length + Ls[k].length ≤ maxLen ∧ ((flatL (Ls.take k)).length + Ls[k].length) * 24 ≤ 140737488355328) := by
            refine ⟨?_, ?_⟩ <;> (try simp only [maxLen]) <;> omega
          have HOWN := Lib.hid hown
          have HFR := Lib.hid hfr
          have HNEW := Lib.hid hnew
          clear hown hfr hnew hr
          go_wp2_with (at_builtin; refine wpList_app _ rfl (.tmp 31) (.tmp 32) 23 23 rfl elL HOWN.out rfl HS.out rfl hX.out.1 hX.out.2 ?_; intro v1 w3 hown3 hfr3 hnew3)
          go_roundw
          case rel =>
            refine ⟨k + 1, by omega, by go_num, ?_, fr_no HFR.out HNEW.out hfr3, HNEW.out.trans (Newer.of hnew3) HFR.out.size⟩
            rw [E.out, E2.out]
            exact hown3
          case measure => simp [intOf]; omega
        · obtain rfl : k = Ls.length := by omega
          rw [List.take_length] at hown
          go_wp2
          go_ret
          exact ⟨_, rfl, hown, hfr.mono (fun _ _ h => False.elim h), hnew⟩
end Go.Proofs.Ytpaeohmoecdniab
