/- VoucherSums' walk. -/
import Derived.Test.YtpaeohmoecdniabVouS
import Derived.Test.YtpaeohmoecdniabVouN2
import Derived.Deep.RegionLaw
import Derived.Deep.RegionWith
import Derived.Deep.CutBlock
import Derived.Deep.DeepCutAuto
namespace Go.Proofs.Ytpaeohmoecdniab
open Go.RowKit Go.My Go.Maps
set_option linter.unusedSimpArgs false
set_option linter.unusedVariables false
attribute [local go_sem ↓] Go.wp_at_zero Go.wp_at_succ

section
open Go.ChangeShapes Go.WideShapes
variable {H : Type} {enc : TypeId × Value → H} {w : World} {base : Nat} {spare : Nat → Bool} {held : Bool}
theorem open_legs {n : Nat} {cs : List Value} {x : DataW H × List MemPlace} (h : DataW.trod enc Try.prog w base spare held n 23 cs = some x) : ∃ L, RdLL w w.heap.size cs L := by
  obtain ⟨A, c, cells, xs, rfl, h1, h2, h3, h4⟩ := open_each RdLg Try.underlying23 (size := 2) (by kernel_rfl) (by omega) (fun n cs x hx => open_leg hx) h
  exact ⟨xs, A, c, cells, rfl, h1, h4, h2, h3⟩
end
theorem elLL : El Try.prog 38 23 1 24 := ⟨Try.underlying38, by
  have h : (Try.prog.info? 23).map (fun i => (i.zero, i.size, i.bytes)) = some (some (.slice none 0 0), 1, 24) := by kernel_rfl
  obtain ⟨i, hi, hz, hs, hb⟩ := info_parts h
  exact ⟨i, _, hi, hz, hs, hb, rfl⟩, by omega⟩
/-- a list of legs that came in -/
theorem ll_at {w : World} {A : Option Addr} {cells : List Value} {T : List (List Lg)} (h : Rd w (Lt w.heap.size) 1 A T.length cells) (hE : Each (RdLL w w.heap.size) 1 cells T) (i : Nat) (hi : i < T.length) :
    ∃ ad A' c', A = some ad ∧ ad.block < w.heap.size ∧ w.cell? (ad.add i) = some (.slice A' T[i].length c') ∧ Rd w (Lt w.heap.size) 2 A' T[i].length (lgs T[i]) ∧ (∀ g ∈ T[i], g.ok) ∧ T[i].length ≤ c' ∧ c' ≤ maxLen := by
  obtain ⟨ad, u, rfl, hb, hx, hc⟩ := h.at_ hi
  obtain ⟨A', c', cs, e1, h1, h2, h3, h4⟩ := hE.2 i T[i] (List.getElem?_eq_getElem hi)
  have e2 : cells[i]? = some (.slice A' T[i].length c') := by
    have := congrArg (fun l : List Value => l[0]?) e1
    simpa using this
  rw [hx] at e2
  injection e2 with e2
  subst e2
  exact ⟨ad, A', c', rfl, hb, hc, by rw [each_lgs T[i] cs h2] at h1; exact h1, each_ok h2, h3, h4⟩

/-- a leg of at most 2^40 -/
def modL (L : List Lg) : List Lg := (L.take 8).map fun g => ⟨g.acct, g.sum.tmod 1099511627776⟩
def ownL (T : List (List Lg)) : List (List Lg) := (T.take 10).map modL
theorem tmod_bd (x : Int) : -1099511627776 ≤ x.tmod 1099511627776 ∧ x.tmod 1099511627776 ≤ 1099511627776 := by
  have h1 := Int.tmod_lt_of_pos x (show (0 : Int) < 1099511627776 by decide)
  have h2 := Int.lt_tmod_of_pos x (show (0 : Int) < 1099511627776 by decide)
  omega
theorem modL_len (L : List Lg) : (modL L).length ≤ 8 := by unfold modL; rw [List.length_map, List.length_take]; omega
theorem modL_take {L : List Lg} {k : Nat} (hk : k < L.length) (h8 : k < 8) : modL (L.take (k + 1)) = modL (L.take k) ++ [⟨L[k].acct, L[k].sum.tmod 1099511627776⟩] := by
  unfold modL
  rw [List.take_of_length_le (l := L.take (k + 1)) (by rw [List.length_take]; omega), List.take_of_length_le (l := L.take k) (by rw [List.length_take]; omega), List.take_succ_eq_append_getElem hk, List.map_append]
  rfl
theorem modL_lenk {L : List Lg} {k : Nat} (hk : k ≤ L.length) (h8 : k ≤ 8) : (modL (L.take k)).length = k := by
  unfold modL
  rw [List.length_map, List.length_take, List.length_take]
  omega
theorem modL_all {L : List Lg} {k : Nat} (h : k = L.length ∨ k = 8) (hk : k ≤ L.length) : modL (L.take k) = modL L := by
  unfold modL
  rcases h with rfl | rfl
  · rw [List.take_length]
  · rw [List.take_take]
    rfl
theorem ownL_take {T : List (List Lg)} {k : Nat} (hk : k < T.length) (h : k < 10) : ownL (T.take (k + 1)) = ownL (T.take k) ++ [modL T[k]] := by
  unfold ownL
  rw [List.take_of_length_le (l := T.take (k + 1)) (by rw [List.length_take]; omega), List.take_of_length_le (l := T.take k) (by rw [List.length_take]; omega), List.take_succ_eq_append_getElem hk, List.map_append]
  rfl
theorem ownL_lenk {T : List (List Lg)} {k : Nat} (hk : k ≤ T.length) (h : k ≤ 10) : (ownL (T.take k)).length = k := by
  unfold ownL
  rw [List.length_map, List.length_take, List.length_take]
  omega
theorem flat_bound : ∀ (Ls : List (List Lg)), (∀ L ∈ Ls, L.length ≤ 8) → (flatL Ls).length ≤ 8 * Ls.length
  | [], _ => by simp [flatL]
  | L :: r, h => by
    have ih := flat_bound r fun x hx => h x (List.mem_cons_of_mem _ hx)
    have h1 := h L List.mem_cons_self
    unfold flatL at ih ⊢
    rw [List.flatten_cons, List.length_append, List.length_cons]
    omega
theorem ownL_ok {T : List (List Lg)} (h : ∀ L ∈ T, ∀ g ∈ L, g.ok) : (∀ g ∈ flatL (ownL T), g.ok) ∧ Small (flatL (ownL T)) ∧ (flatL (ownL T)).length ≤ 80 ∧ (ownL T).length ≤ 10 := by
  have key : ∀ g ∈ flatL (ownL T), g.ok ∧ -1099511627776 ≤ g.sum ∧ g.sum ≤ 1099511627776 := fun g hg => by
    unfold flatL at hg
    obtain ⟨L, hL, hgL⟩ := List.mem_flatten.1 hg
    unfold ownL at hL
    obtain ⟨L', hL', rfl⟩ := List.mem_map.1 hL
    unfold modL at hgL
    obtain ⟨b, hb, rfl⟩ := List.mem_map.1 hgL
    have h1 := h L' (List.mem_of_mem_take hL') b (List.mem_of_mem_take hb)
    have h2 := tmod_bd b.sum
    refine ⟨⟨h1.1, ?_⟩, h2⟩
    unfold In64
    simp only
    omega
  have hl : (ownL T).length ≤ 10 := by unfold ownL; rw [List.length_map, List.length_take]; omega
  refine ⟨fun g hg => (key g hg).1, fun g hg => (key g hg).2, ?_, hl⟩
  have := flat_bound (ownL T) (fun L hL => by
    unfold ownL at hL
    obtain ⟨L', _, rfl⟩ := List.mem_map.1 hL
    exact modL_len L')
  omega

theorem rows_turn {w : World} {Ls : List (List Lg)} {cells : List Value} {A : Option Addr} {n : Nat} {F : Nat → Prop} (k : Nat) (hk : k ≤ Ls.length) (hcl : cells.length = Ls.length) (hrow : ∀ i (h : i < Ls.length), ∃ A' c', cells[i]? = some (.slice A' Ls[i].length c') ∧ Rd w Any 2 A' Ls[i].length (lgs Ls[i]))
    (hn : n = Ls.length) (hr : Rd w F 1 A n (cells.drop k ++ cells.take k)) : LsS w A (Ls.drop k ++ Ls.take k) := by
  have hlen : (Ls.drop k ++ Ls.take k).length = Ls.length := by rw [List.length_append, List.length_drop, List.length_take]; omega
  refine ⟨cells.drop k ++ cells.take k, by rw [hlen, ← hn]; exact hr.more fun _ _ => trivial, fun i hi => ?_⟩
  rw [hlen] at hi
  by_cases h : i < Ls.length - k
  · obtain ⟨A', c', h1, h2⟩ := hrow (k + i) (by omega)
    have e : (Ls.drop k ++ Ls.take k)[i]'(by rw [hlen]; exact hi) = Ls[k + i]'(by omega) := by
      rw [List.getElem_append_left (by rw [List.length_drop]; exact h), List.getElem_drop]
    rw [e]
    exact ⟨A', c', by rw [List.getElem?_append_left (by rw [List.length_drop]; omega), List.getElem?_drop]; exact h1, h2⟩
  · obtain ⟨A', c', h1, h2⟩ := hrow (i - (Ls.length - k)) (by omega)
    have e : (Ls.drop k ++ Ls.take k)[i]'(by rw [hlen]; exact hi) = Ls[i - (Ls.length - k)]'(by omega) := by
      rw [List.getElem_append_right (by rw [List.length_drop]; omega), List.getElem_take]
      simp only [List.length_drop]
    rw [e]
    exact ⟨A', c', by rw [List.getElem?_append_right (by rw [List.length_drop]; omega), List.length_drop, hcl, List.getElem?_take, if_pos (by omega)]; exact h1, h2⟩
theorem flat_turn (Ls : List (List Lg)) (k : Nat) : (flatL Ls).Perm (flatL (Ls.drop k ++ Ls.take k)) := by
  have h : Ls.Perm (Ls.drop k ++ Ls.take k) := by
    have := List.perm_append_comm (l₁ := Ls.take k) (l₂ := Ls.drop k)
    rwa [List.take_append_drop] at this
  exact h.flatten
theorem sums_append (A B : List Lg) : sums (A ++ B) = sums A ++ sums B := by unfold sums; rw [List.map_append]
theorem wrap_zero : wrap64 0 = 0 := IntWalk.wrap64_in _ (by omega)
theorem wrap_addT (a b : Int) : wrap64 (wrap64 a + b) = wrap64 (a + b) := by simp only [wrap64]; omega

theorem ownL_all {T : List (List Lg)} {i : Nat} (h : i = T.length ∨ i = 10) : ownL (T.take i) = ownL T := by
  unfold ownL
  rcases h with rfl | rfl
  · rw [List.take_length]
  · rw [List.take_take]
    rfl
theorem nets_ok {F : List Lg} (hF : ∀ g ∈ F, g.ok) (h : ∀ a ∈ nmA F, In64 (total (sumsOf F a.name))) : (∀ g ∈ netL F, g.ok) ∧ (netL F).length ≤ F.length ∧ (∀ g ∈ netL F, g.sum ≠ 0) ∧ (netL F).Pairwise fun a b => bytesBefore a.nm b.nm = true := by
  rw [netL_ok h]
  refine ⟨fun g hg => ?_, Nat.le_trans (netsOf_le F _) (nmA_length F), nets_ne, nets_rise (rise_nmA F)⟩
  unfold netsOf at hg
  obtain ⟨a, ha, hq⟩ := List.mem_filterMap.1 hg
  unfold netLg at hq
  split at hq
  · cases hq
  · injection hq with hq
    subst hq
    refine ⟨?_, h a ha⟩
    obtain ⟨b, hb, he⟩ := (mem_nmA F _).1 ha
    have := (hF b hb).1
    show a.name.length ≤ maxLen
    rw [he]
    simpa [nm0, Lg.nm] using this
theorem sums_take_next (N : List Lg) {i : Nat} (hi : i < N.length) : wrap64 (wrap64 (total (sums (N.take i))) + N[i].sum) = wrap64 (total (sums (N.take (i + 1)))) := by
  rw [wrap_addT, sums_take hi, total_append]
  simp [total_cons, total_nil]
theorem less_of {a b : Lg} (h : bytesBefore a.nm b.nm = true) : Op.bytesLess a.acct.toList b.acct.toList = true := by
  rw [ByteArray.toList_eq, ByteArray.toList_eq, bytesLess_eq]
  exact decide_eq_true (before_lt _ _ h)

def T6Rel (w3 w6 : World) (N : List Lg) (a12 a13 : Value) (wx : World) : Prop := ∃ A9 c9, a12 = .slice A9 N.length c9 ∧ a13 = .int .i64 0 ∧ Rd wx Any 2 A9 N.length (lgs N) ∧ Fr No w6 wx
def T1Rel (w2 : World) (T : List (List Lg)) (ov iv : Value) (wr : World) : Prop := ∃ i : Nat, i ≤ T.length ∧ i ≤ 10 ∧ iv = .int .i64 i ∧ LsO wr w2.heap.size ov (ownL (T.take i)) ∧ Fr No w2 wr
def T2Rel (wo : World) (L : List Lg) (lv kv : Value) (wr : World) : Prop := ∃ k : Nat, k ≤ L.length ∧ k ≤ 8 ∧ kv = .int .i64 k ∧ Own wr 47 2 lv k (lgs (modL (L.take k))) ∧ Fr No wo wr ∧ Newer wo.heap.size none lv.ownBlock
def T3Rel (w7 : World) (Ls : List (List Lg)) (av iv : Value) (wr : World) : Prop := ∃ i : Nat, i ≤ Ls.length ∧ iv = .int .i64 i ∧ av = .int .i64 (wrap64 (total (sums (flatL (Ls.take i))))) ∧ wr = w7
def T4Rel (w7 : World) (b0 : Int) (L : List Lg) (av kv : Value) (wr : World) : Prop := ∃ j : Nat, j ≤ L.length ∧ kv = .int .i64 j ∧ av = .int .i64 (wrap64 (b0 + total (sums (L.take j)))) ∧ wr = w7
def T5Rel (w7 : World) (N : List Lg) (sv iv : Value) (wr : World) : Prop := ∃ i j : Nat, i ≤ N.length ∧ iv = .int .i64 i ∧ sv = .int .i64 (wrap64 (total (sums (N.take i)))) ∧ wr = w7.drewN j

set_option maxRecDepth 100000 in
set_option maxHeartbeats 0 in
theorem voucherSums_walk (A : Option Addr) (c : Nat) (cells : List Value) (T : List (List Lg)) (at_ : Int) (w : World)
    (hr : Rd w (Lt w.heap.size) 1 A T.length cells) (hc : T.length ≤ c) (hcm : c ≤ maxLen) (hE : Each (RdLL w w.heap.size) 1 cells T) (hat : -9223372036854775808 ≤ at_ ∧ at_ ≤ 9223372036854775807) :
    Calls Try.prog 8 #[.slice A T.length c, .int .i64 at_] w (RetTrue w) := by
  have hallok : ∀ L ∈ T, ∀ g ∈ L, g.ok := fun L hL => by
    obtain ⟨i, hi, rfl⟩ := List.getElem_of_mem hL
    obtain ⟨_, _, _, _, _, _, _, h, _⟩ := ll_at hr hE i hi
    exact h
  have HOWN := Lib.hid (ownL_ok hallok)
  have HLL : Hid (∀ W, Below w.heap.size w W → ∀ i (hi : i < T.length), ∃ ad A' c', A = some ad ∧ W.cell? (ad.add i) = some (.slice A' T[i].length c') ∧ Rd W (Lt w.heap.size) 2 A' T[i].length (lgs T[i]) ∧ (∀ g ∈ T[i], g.ok) ∧ T[i].length ≤ c' ∧ c' ≤ maxLen) := fun W hW i hi => by
    obtain ⟨ad, A', c', h1, h2, h3, h4, h5, h6, h7⟩ := ll_at hr hE i hi
    refine ⟨ad, A', c', h1, ?_, h4.below hW fun _ h => h, h5, h6, h7⟩
    rw [hW.cell (by rw [block_of_add]; exact h2)]
    exact h3
  have hcm' := hcm
  unfold maxLen at hcm'
  have hTl : (T.length : Int) ≤ 9223372036854775807 := by omega
  clear hr hE hcm hcm' hallok
  go_enter Try.func8, Try.ntmps8
  go_wp2_with fail
  refine (livesV _).mono ?_
  rintro e w2 ⟨rfl, hb2⟩
  have HB2 := Lib.hid hb2
  have hs2 := hb2.size
  clear hb2
  go_upto_block 0 with (fail)
  go_cut [5] (fun a5 wx => LsO wx w2.heap.size a5 (ownL T) ∧ Fr No w2 wx)
  case first =>
    go_wp2_with fail
    go_loopw [5, 6] (fun ov iv wr => T1Rel w2 T ov iv wr) (fun _ iv _ => T.length - (intOf iv).toNat)
    case atStart => exact ⟨0, Nat.zero_le _, Nat.zero_le _, rfl, LsO.nil _ _, Fr.refl _ _⟩
    case round =>
      obtain ⟨i, hi, hi10, rfl, hlo, hfr⟩ := hrel
      by_cases hgo : i < T.length ∧ i < 10
      · obtain ⟨hlt, h10⟩ := hgo
        have h10' : (i : Int) < 10 := by omega
        obtain ⟨wo, rfl⟩ : ∃ wo : World, wo = wr := ⟨_, rfl⟩
        have HLLi : Hid (∀ W, Fr No wo W → ∃ ad A' c', A = some ad ∧ W.cell? (ad.add i) = some (.slice A' T[i].length c') ∧ Rd W (Lt w.heap.size) 2 A' T[i].length (lgs T[i]) ∧ (∀ g ∈ T[i], g.ok) ∧ T[i].length ≤ c' ∧ c' ≤ maxLen) := fun W hW => HLL.out W (below_fr_no HB2.out (hfr.trans hW) (by omega)) i hlt
        have E1 : Hid (ownL (T.take (i + 1)) = ownL (T.take i) ++ [modL T[i]]) := ownL_take hlt h10
        have HLK : Hid ((ownL (T.take i)).length = i) := ownL_lenk (by omega) (by omega)
        obtain ⟨Ao, co, hov, hoc, hocm⟩ := hlo.form
        rw [HLK.out] at hov hoc
        subst hov
        have HLO := Lib.hid hlo
        have HFO := Lib.hid hfr
        have hso := hfr.size
        clear hlo hfr hi hi10
        generalize T[i] = L at *
        have h0l : ¬ (L.length : Int) < 0 := by omega
        go_wp2_with fail
        go_loopw [7, 8] (fun lv kv ws => T2Rel wo L lv kv ws) (fun _ kv _ => L.length - (intOf kv).toNat)
        case atStart => exact ⟨0, Nat.zero_le _, Nat.zero_le _, rfl, Own.nil _ _ _, Fr.refl _ _, .inl rfl⟩
        case round =>
          obtain ⟨k, hk, hk8, rfl, hown, hfr, hnew⟩ := hrel
          obtain ⟨ad, A', c', rfl, q0, hrL, hokL, hLc, hLm⟩ := HLLi.out _ hfr
          unfold maxLen at hLm
          by_cases hgo : k < L.length ∧ k < 8
          · obtain ⟨hkl, hk8'⟩ := hgo
            have hk8i : (k : Int) < 8 := by omega
            obtain ⟨gd, rfl, _, hgok, p0, p1⟩ := lg_get _ hrL hokL k hkl
            have E : Hid (lgs (modL (L.take (k + 1))) = lgs (modL (L.take k)) ++ [.string L[k].acct, .int .i64 (L[k].sum.tmod 1099511627776)]) := by
              show _ = _
              rw [modL_take hkl hk8', lgs_append]
              rfl
            have htm := tmod_bd L[k].sum
            generalize L[k] = g at *
            obtain ⟨nm, sm⟩ := g
            simp only at p0 p1 E htm
            have hX : Hid (k + 1 ≤ maxLen ∧ (k + 1) * 24 ≤ 140737488355328) := by
              refine ⟨?_, ?_⟩ <;> (try simp only [maxLen]) <;> omega
            have HOW := Lib.hid hown
            have HFR := Lib.hid hfr
            have HNEW := Lib.hid hnew
            have hwm : IntKind.i64.wrap (sm.tmod 1099511627776) = sm.tmod 1099511627776 := IntWalk.i64_in _ (by omega)
            clear hown hfr hnew hgok hrL hokL
            go_upto_region 11 with (fail)
            go_region_law (refine step_app _ rfl (.tmp 44) (.tmp 63) 23 23 rfl elL ((HOW.out.alloc _).drew) rfl (Src.of_new wr.heap.size (heap_alloc_new wr _) Try.underlying23 rfl (by simp [Value.oneCell'])) rfl hX.out.1 hX.out.2 ?_; intro v5 w5 ho5 hf5 hn5)
            all_goals
              have HF5 := Lib.hid (fr_no (Fr.drew (HFR.out.alloc _)) HNEW.out hf5)
              have HN5 := Lib.hid (HNEW.out.trans (Newer.of hn5) (by have := HFR.out.size; simp; omega))
              have HO5 : Hid (Own w5 47 2 v5 (k + 1) (lgs (modL (L.take (k + 1))))) := by show Own _ _ _ _ _ _; rw [E.out]; exact ho5
              clear ho5 hf5 hn5 hwm
              go_wp2
              go_roundw
              case rel => exact ⟨k + 1, by omega, by omega, by go_num, HO5.out, HF5.out, HN5.out⟩
              case measure => simp [intOf]; omega
          · have hke : k = L.length ∨ k = 8 := by omega
            obtain ⟨w3, rfl⟩ : ∃ w3 : World, w3 = wr := ⟨_, rfl⟩
            have E2 : Hid (modL (L.take k) = modL L) := modL_all hke hk
            have hkl := modL_lenk hk hk8
            rw [E2.out] at hown hkl
            obtain ⟨A4, c4, rfl, _, _⟩ := hown.form
            have HRO : Hid (Rd w3 (RowL w3 w2.heap.size) 2 A4 (modL L).length (lgs (modL L))) := by
              rw [hkl]
              exact hown.rd.more fun j hj => ⟨hown.lt j hj, .inr (hown.blk j hj)⟩
            have HLO3 := Lib.hid (HLO.out.no hfr)
            have HF3 := Lib.hid (HFO.out.trans hfr)
            have HKL := Lib.hid hkl
            have hs3 := HF3.out.size
            obtain ⟨cells3, hoc3, hcc3, _⟩ := HLO3.out.1
            rw [HLK.out] at hoc3
            have HOC := Lib.hid hoc3
            have hX : Hid (i + 1 ≤ maxLen ∧ (i + 1) * 24 ≤ 140737488355328) := by
              refine ⟨?_, ?_⟩ <;> (try simp only [maxLen]) <;> omega
            have hfin : ∀ v5 w5, Own w5 23 1 v5 (i + 1) (cells3 ++ [.slice A4 k c4]) → Fr (AtO (Value.slice Ao i co).ownBlock) (w3.alloc (.cells #[.slice A4 k c4] 23)) w5 → (v5.ownBlock = (Value.slice Ao i co).ownBlock ∨ v5.ownBlock = some (w3.alloc (.cells #[.slice A4 k c4] 23)).heap.size) →
                LsO w5 w2.heap.size v5 (ownL (T.take (i + 1))) ∧ Fr No w2 w5 := fun v5 w5 ho5 hf5 hn5 => by
              have hfa : Fr No w3 (w3.alloc (.cells #[.slice A4 k c4] 23)) := (Fr.refl _ _).alloc _
              have h1 := LsO.push (L := modL L) (c := c4) (A := A4) (v' := v5) (w' := w5) (cells := cells3) (HLO3.out.no hfa) (rowL_fr HRO.out hfa fun _ _ h => h) (by rw [HLK.out]; exact HOC.out.fr hfa (fun _ _ h => h)) (by rw [HLK.out, HKL.out]; exact ho5) hf5 hn5 (by have := hfa.size; omega)
              rw [E1.out]
              refine ⟨h1, (HF3.out.trans hfa).trans' hf5 fun j hj hlt => ?_⟩
              have := HLO3.out.2 j hj
              omega
            have HFIN := Lib.hid hfin
            clear hown hfr hnew hkl hoc3 hcc3 hfin hrL hokL
            have hgo8 : ¬ ((k : Int) < (L.length : Int) ∧ (k : Int) < 8) := by omega
            by_cases hk8l : k < L.length
            · have hk8' : ¬ (k : Int) < 8 := by omega
              go_wp2_with (at_builtin; refine wpList_app _ rfl (.tmp 65) (.tmp 67) 38 38 rfl elLL (HOC.out.alloc _) rfl (Src.of_new w3.heap.size (heap_alloc_new w3 _) Try.underlying38 rfl (by simp [Value.oneCell'])) rfl hX.out.1 hX.out.2 ?_; intro v5 w5 ho5 hf5 hn5)
              have HG5 := Lib.hid (HFIN.out v5 w5 ho5 hf5 hn5)
              clear ho5 hf5 hn5
              go_roundw
              case rel => exact ⟨i + 1, by omega, by omega, by go_num, HG5.out.1, HG5.out.2⟩
              case measure => simp [intOf]; omega
            · go_wp2_with (at_builtin; refine wpList_app _ rfl (.tmp 65) (.tmp 67) 38 38 rfl elLL (HOC.out.alloc _) rfl (Src.of_new w3.heap.size (heap_alloc_new w3 _) Try.underlying38 rfl (by simp [Value.oneCell'])) rfl hX.out.1 hX.out.2 ?_; intro v5 w5 ho5 hf5 hn5)
              have HG5 := Lib.hid (HFIN.out v5 w5 ho5 hf5 hn5)
              clear ho5 hf5 hn5
              go_roundw
              case rel => exact ⟨i + 1, by omega, by omega, by go_num, HG5.out.1, HG5.out.2⟩
              case measure => simp [intOf]; omega
      · have hie : i = T.length ∨ i = 10 := by omega
        have E2 : Hid (ownL (T.take i) = ownL T) := ownL_all hie
        rw [E2.out] at hlo
        have HLO := Lib.hid hlo
        have HFR := Lib.hid hfr
        clear hlo hfr
        by_cases hil : i < T.length
        · have hn10 : ¬ (i : Int) < 10 := by omega
          go_wp2
          go_meet
          exact ⟨HLO.out, HFR.out⟩
        · go_wp2
          go_meet
          exact ⟨HLO.out, HFR.out⟩
  case rest =>
      obtain ⟨w3, rfl⟩ : ∃ w3 : World, w3 = wc := ⟨_, rfl⟩
      obtain ⟨hlo, hfr⟩ := hcut
      obtain ⟨hok, hsm, hfl, hln⟩ := HOWN.out
      clear HOWN
      generalize ownL T = Ls at *
      have hin := small_net hsm (by omega)
      have HE0 := Lib.hid (netE_ok hin)
      obtain ⟨hn1, hn2, hn3, hn4⟩ := nets_ok hok hin
      have HT := Lib.hid (net_all _ hin)
      obtain ⟨k, hk, hkl⟩ := umod at_ (Ls.length + 1) (by omega) (by omega)
      have hk' : wrap64 ((IntKind.u64.wrap at_).tmod ((Ls.length : Int) + 1)) = (k : Int) := hk
      have hkN : k ≤ Ls.length := by omega
      obtain ⟨hpe, hpl⟩ := net_perm (flat_turn Ls k)
      have hp := flat_turn Ls k
      have HN1 : Hid (∀ W c' A', LsS W A' Ls → Calls Try.prog 21 #[.slice A' Ls.length c'] W (RetLs W (netL (flatL Ls)) 0)) := fun W c' A' h => by
        have h1 := net_any A' c' Ls W h hok (by omega) (by omega)
        rw [HE0.out] at h1
        exact h1
      have HN2 : Hid (∀ W c' A', LsS W A' (Ls.drop k ++ Ls.take k) → Calls Try.prog 21 #[.slice A' Ls.length c'] W (RetLs W (netL (flatL Ls)) 0)) := fun W c' A' h => by
        have hlen : (Ls.drop k ++ Ls.take k).length = Ls.length := by rw [List.length_append, List.length_drop, List.length_take]; omega
        have h1 := net_any A' c' (Ls.drop k ++ Ls.take k) W h (fun g hg => hok g (hp.mem_iff.2 hg)) (by omega) (by rw [← hp.length_eq]; omega)
        rw [← hpe, ← hpl, HE0.out, hlen] at h1
        exact h1
      obtain ⟨F, hF⟩ : ∃ F, flatL Ls = F := ⟨_, rfl⟩
      have HFL := Lib.hid hF
      rw [hF] at HN1 HN2 HT hn1 hn2 hn3 hn4 hfl
      generalize netL F = N at *
      have HNO := Lib.hid hn1
      have HNZ := Lib.hid hn3
      have HNR := Lib.hid hn4
      obtain ⟨Ao, co, rfl, hoc, hocm⟩ := hlo.form
      have HLO := Lib.hid hlo
      have HF3 := Lib.hid hfr
      have hs3 := hfr.size
      obtain ⟨⟨cells3, hown, hone, hrow⟩, _⟩ := hlo
      have hcl : cells3.length = Ls.length := by have := hown.1; omega
      have HROW : Hid (∀ W, Fr No w3 W → ∀ i (h : i < Ls.length), ∃ A' c', cells3[i]? = some (.slice A' Ls[i].length c') ∧ Rd W Any 2 A' Ls[i].length (lgs Ls[i])) := fun W hW i hi => by
        obtain ⟨A', c', h1, h2⟩ := hrow i hi
        exact ⟨A', c', h1, (h2.more fun _ _ => trivial).fr (by omega) hW fun _ _ _ h => h⟩
      obtain ⟨X, hX⟩ : ∃ X, X = if co = k then Ao else Ao.map (·.add (k * 1)) := ⟨_, rfl⟩
      have hrd : Rd w3 Any 1 Ao Ls.length cells3 := hown.rd.more fun _ _ => trivial
      have hrT : Rd w3 Any 1 Ao k (cells3.take k) := by have := hrd.take hkN; rwa [Nat.mul_one] at this
      have hrD : Rd w3 Any 1 X (Ls.length - k) (cells3.drop k) := by
        have := hrd.cut (cap := co) hkN hoc
        rw [Nat.mul_one] at this
        rw [hX, Nat.mul_one]
        exact this
      have HSD : Hid (∀ W c', Fr No w3 W → Src Try.prog W 1 38 (.slice X (Ls.length - k) c') (Ls.length - k) (cells3.drop k)) := fun W c' hW => Src.of_rd (hrD.fr (by omega) hW fun _ _ _ h => h) (fun u hu => hone u (List.mem_of_mem_drop hu)) Try.underlying38
      have HST : Hid (∀ W c', Fr No w3 W → Src Try.prog W 1 38 (.slice Ao k c') k (cells3.take k)) := fun W c' hW => Src.of_rd (hrT.fr (by omega) hW fun _ _ _ h => h) (fun u hu => hone u (List.mem_of_mem_take hu)) Try.underlying38
      have HTURN : Hid (∀ W A' n F, Fr No w3 W → n = Ls.length → Rd W F 1 A' n (cells3.drop k ++ cells3.take k) → LsS W A' (Ls.drop k ++ Ls.take k)) := fun W A' n F hW hn h => rows_turn k hkN hcl (HROW.out W hW) hn h
      have HMX : Hid (0 + (Ls.length - k) ≤ maxLen ∧ (0 + (Ls.length - k)) * 24 ≤ 140737488355328 ∧ Ls.length - k + k ≤ maxLen ∧ (Ls.length - k + k) * 24 ≤ 140737488355328) := by
        refine ⟨?_, ?_, ?_, ?_⟩ <;> (try simp only [maxLen]) <;> omega
      have HNK : Hid (Ls.length - k + k = Ls.length) := by show _ = _; omega
      unfold maxLen at hocm
      have HALL := Lib.hid hok
      have HLEN : Hid (∀ i (hi : i < Ls.length), Ls[i].length ≤ 1000) := fun i hi => by
        have h1 := flat_le (Ls := Ls) (i + 1)
        rw [flat_take hi, List.length_append, hF] at h1
        omega
      clear hfr hin hpe hpl hp hk hF hok hsm hn1 hn3 hn4 hown hone hrow hcl hrd hrT hrD HLL
      go_wp2_with fail
      try rw [hk']
      refine (HN1.out _ _ _ HLO.out.ls).mono ?_
      rintro e w6 ⟨v6, rfl, ho6, hf6, hn6⟩
      obtain ⟨A6, c6, rfl, _, _⟩ := ho6.form
      have HO6 := Lib.hid ho6.rd
      have HF6 := Lib.hid hf6
      clear ho6 hf6 hn6
      go_upto_region 15 with (fail)
      have hf6d : Fr No w6 w6.drew := Fr.drew (Fr.refl No w6)
      have hkco : k ≤ co := by omega
      go_cut [12, 13] (fun a12 a13 wx => T6Rel w3 w6 N a12 a13 wx)
      case first =>
        go_wp2
        by_cases hck : co = k
        focus
          subst hck
          rw [if_pos rfl] at hX
          have hz0 : Ls.length - co = 0 := by omega
          rw [hz0] at HSD HMX HNK
          clear hz0
        rotate_left
        focus rw [if_neg hck] at hX
        all_goals
          have hX' := hX.symm
          clear hX
          try rw [Nat.mul_one] at hX'
          subst hX'
          try rw [hk']
          go_region_law (first
            | (refine step_app _ rfl (.const (.slice none 0 0)) (.tmp 85) 38 38 rfl elLL (Own.nil _ _ _) rfl (HSD.out _ _ (HF6.out.trans hf6d)) rfl HMX.out.1 HMX.out.2.1 ?_; intro v7 w7 ho7 hf7 hn7; rw [Nat.zero_add, List.nil_append] at ho7
               have hq7 : Fr No w6 w7 := Fr.trans hf6d (fr_at_none hf7)
               have hn7' : Newer w6.heap.size none v7.ownBlock := Newer.trans (.inl rfl) (Newer.of hn7) hf6d.size)
            | (refine step_app _ rfl (.tmp 86) (.tmp 89) 38 38 rfl elLL ho7 rfl (HST.out _ _ (HF6.out.trans hq7)) rfl HMX.out.2.2.1 HMX.out.2.2.2 ?_; intro v8 w8 ho8 hf8 hn8; rw [HNK.out] at ho8; obtain ⟨A8, c8, rfl, hl8, hm8⟩ := ho8.form
               have hq8 : Fr No w6 w8 := fr_no hq7 hn7' hf8)
            | (go_simp; go_at_call 21; (with_reducible refine (HN2.out _ _ _ (HTURN.out _ _ _ _ (HF6.out.trans hq8) rfl ho8.rd)).mono ?_); rintro e w9 ⟨v9, rfl, ho9, hf9, hn9⟩; obtain ⟨A9, c9, rfl, _, _⟩ := ho9.form; have HT9 : Hid (T6Rel w3 w6 N (.slice A9 N.length c9) (.int .i64 0) w9) := ⟨A9, c9, rfl, rfl, ho9.rd.more fun _ _ => trivial, hq8.trans hf9⟩; clear ho9 hf9 hn9))
          all_goals
            go_wp2
            go_meet
            exact HT9.out
      case rest =>
        obtain ⟨A9, c9, rfl, rfl, hr9, hf9⟩ := hcut
        have HS9 := Lib.hid (HLO.out.ls.fr (HF6.out.trans hf9))
        have HR6 := Lib.hid (HO6.out.fr (by omega) hf9 fun _ _ _ h => h)
        have HR9 := Lib.hid hr9
        have HB9 := Lib.hid (below_fr_no HB2.out (HF3.out.trans (HF6.out.trans hf9)) (by omega))
        have HTA : Hid (∀ i (hi : i < Ls.length), sums (flatL (Ls.take (i + 1))) = sums (flatL (Ls.take i)) ++ sums Ls[i]) := fun i hi => by rw [flat_take hi, sums_append]
        obtain ⟨w7, rfl⟩ : ∃ w7 : World, w7 = wc := ⟨_, rfl⟩
        clear hf6d hr9 hf9 HN1 HN2 HTURN HSD HST HROW HO6 hX HMX HNK
        go_upto_region 16 with (fail)
        go_wp2_with fail
        go_loopw [15, 16] (fun av iv wr => T3Rel w7 Ls av iv wr) (fun _ iv _ => Ls.length - (intOf iv).toNat)
        case atStart => exact ⟨0, Nat.zero_le _, rfl, by rw [show total (sums (flatL (Ls.take 0))) = 0 from rfl, wrap_zero], rfl⟩
        case round =>
          obtain ⟨i, hi, rfl, rfl, rfl⟩ := hrel
          by_cases hil : i < Ls.length
          · obtain ⟨ad, A', c', rfl, q0, hrL⟩ := HS9.out.at_ i hil
            have hTA := HTA.out i hil
            have HLOK : Hid (∀ g ∈ Ls[i], g.ok) := fun g hg => HALL.out g (by unfold flatL; exact List.mem_flatten.2 ⟨_, List.getElem_mem hil, hg⟩)
            have hLle : Ls[i].length ≤ 1000 := HLEN.out i hil
            have HTB := Lib.hid hTA
            have HLL := Lib.hid hrL
            clear hTA hrL
            generalize Ls[i] = L at *
            obtain ⟨b0, hb0⟩ : ∃ b0, total (sums (flatL (Ls.take i))) = b0 := ⟨_, rfl⟩
            rw [hb0]
            have HB0 := Lib.hid hb0
            clear hb0
            obtain ⟨wo, rfl⟩ : ∃ wo : World, wo = wr := ⟨_, rfl⟩
            go_wp2_with fail
            go_loopw [15, 17] (fun av kv ws => T4Rel wo b0 L av kv ws) (fun _ kv _ => L.length - (intOf kv).toNat)
            case atStart => exact ⟨0, Nat.zero_le _, rfl, by rw [show total (sums (L.take 0)) = 0 from rfl, Int.add_zero], rfl⟩
            case round =>
              obtain ⟨j, hj, rfl, rfl, rfl⟩ := hrel
              by_cases hjl : j < L.length
              · obtain ⟨gd, hgd, _, _, p0, p1⟩ := lg_get _ HLL.out HLOK.out j hjl
                subst hgd
                have HS : Hid (wrap64 (wrap64 (b0 + total (sums (L.take j))) + L[j].sum) = wrap64 (b0 + total (sums (L.take (j + 1))))) := by
                  show _ = _
                  rw [wrap_addT, sums_take hjl, total_append]
                  simp [total_cons, total_nil, Int.add_assoc]
                generalize L[j] = g at *
                obtain ⟨nm, sm⟩ := g
                simp only at p0 p1 HS
                obtain ⟨x0, hx0⟩ : ∃ x0, wrap64 (b0 + total (sums (L.take j))) = x0 := ⟨_, rfl⟩
                rw [hx0] at HS
                rw [hx0]
                clear hx0
                go_wp2
                go_roundw
                case rel => exact ⟨j + 1, by omega, by go_num, by rw [← HS.out], rfl⟩
                case measure => simp [intOf]; omega
              · obtain rfl : j = L.length := by omega
                have HS : Hid (wrap64 (b0 + total (sums (L.take L.length))) = wrap64 (total (sums (flatL (Ls.take (i + 1)))))) := by
                  show _ = _
                  rw [HTB.out, total_append, HB0.out, List.take_length]
                generalize wrap64 (b0 + total (sums (L.take L.length))) = x0 at *
                go_wp2
                go_roundw
                case rel => exact ⟨i + 1, by omega, by go_num, by rw [← HS.out], rfl⟩
                case measure => simp [intOf]; omega
          · obtain rfl : i = Ls.length := by omega
            have HS : Hid (wrap64 (total (sums (flatL (Ls.take Ls.length)))) = wrap64 (total (sums N))) := by
              show _ = _
              rw [List.take_length, HFL.out, HT.out]
            generalize wrap64 (total (sums (flatL (Ls.take Ls.length)))) = xa at *
            obtain ⟨w8, rfl⟩ : ∃ w8 : World, w8 = wr := ⟨_, rfl⟩
            go_wp2_with fail
            go_loopw [14, 18] (fun sv iv ws => T5Rel w8 N sv iv ws) (fun _ iv _ => N.length - (intOf iv).toNat)
            case atStart => exact ⟨0, 0, Nat.zero_le _, rfl, by rw [show total (sums (N.take 0)) = 0 from rfl, wrap_zero], rfl⟩
            case round =>
              obtain ⟨i, j0, hi, rfl, rfl, rfl⟩ := hrel
              by_cases hin : i < N.length
              · obtain ⟨gd, hgd, _, _, p0, p1⟩ := lg_get _ HR6.out HNO.out i hin
                subst hgd
                have hz := HNZ.out N[i] (List.getElem_mem hin)
                have hz1 : (N[i].sum == 0) = false := beq_eq_false_iff_ne.2 hz
                have HS := Lib.hid (sums_take_next N hin)
                by_cases h0 : 0 < i
                · obtain ⟨gd2, hgd2, _, _, p2, p3⟩ := lg_get _ HR6.out HNO.out (i - 1) (by omega)
                  injection hgd2 with hgd2
                  subst hgd2
                  have hls : Op.bytesLess N[i - 1].acct.toList N[i].acct.toList = true := less_of (List.pairwise_iff_getElem.1 HNR.out (i - 1) i (by omega) hin (by omega))
                  generalize N[i] = g at *
                  generalize N[i - 1] = g2 at *
                  have h0' : (0 : Int) < (i : Int) := by omega
                  have hi1 : IntKind.i64.wrap ((i : Int) - 1) = (i : Int) - 1 := IntWalk.i64_in _ (by omega)
                  have hi1' : wrap64 ((i : Int) - 1) = (i : Int) - 1 := IntWalk.wrap64_in _ (by omega)
                  have hi2 : ((i : Int) - 1).toNat = i - 1 := by omega
                  have hi3 : (1 : Int) ≤ (i : Int) := by omega
                  have hi4 : (i : Int) - 1 < (N.length : Int) := by omega
                  have hd0 : decide ((0 : Int) < (i : Int)) = true := decide_eq_true h0'
                  obtain ⟨x0, hx0⟩ : ∃ x0, wrap64 (total (sums (N.take i))) = x0 := ⟨_, rfl⟩
                  rw [hx0] at HS
                  rw [hx0]
                  obtain ⟨nm, sm⟩ := g
                  obtain ⟨nm2, sm2⟩ := g2
                  simp only at p0 p1 p2 p3 HS hz1 hls
                  clear hx0 hz
                  go_wp2_with fail
                  go_quiet (fail)
                  clear hi1 hi1' hi2
                  go_wp2
                  go_roundw
                  case rel => exact ⟨i + 1, _, by omega, by go_num, by rw [← HS.out], rfl⟩
                  case measure => simp [intOf]; omega
                · have h0' : ¬ (0 : Int) < (i : Int) := by omega
                  have hd0 : decide ((0 : Int) < (i : Int)) = false := decide_eq_false h0'
                  generalize N[i] = g at *
                  obtain ⟨x0, hx0⟩ : ∃ x0, wrap64 (total (sums (N.take i))) = x0 := ⟨_, rfl⟩
                  rw [hx0] at HS
                  rw [hx0]
                  obtain ⟨nm, sm⟩ := g
                  simp only at p0 p1 HS hz1
                  clear hx0 hz
                  go_wp2_with fail
                  go_quiet (fail)
                  go_wp2
                  go_roundw
                  case rel => exact ⟨i + 1, _, by omega, by go_num, by rw [← HS.out], rfl⟩
                  case measure => simp [intOf]; omega
              · obtain rfl : i = N.length := by omega
                rw [List.take_length]
                have hsl := sameL_any _ _ A6 A9 c6 c9 N N (w8.drewN j0) (HR6.out.fr (by omega) ((Fr.refl No w8).drewN j0) fun _ _ _ h => h) (HR9.out.fr (by omega) ((Fr.refl No w8).drewN j0) fun _ _ _ h => h) HNO.out HNO.out (by omega)
                rw [decide_eq_true rfl] at hsl
                have HSL := Lib.hid hsl
                rw [HS.out]
                generalize wrap64 (total (sums N)) = xs at *
                clear hsl
                go_wp2_with fail
                refine HSL.out.mono ?_
                rintro e w9 ⟨rfl, j9, rfl⟩
                go_wp2
                go_ret
                exact ⟨rfl, below_drewN HB9.out _⟩
end Go.Proofs.Ytpaeohmoecdniab
