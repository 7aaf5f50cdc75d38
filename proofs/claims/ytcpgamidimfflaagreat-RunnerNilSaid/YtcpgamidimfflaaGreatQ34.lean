/- In which row a run executes (lists): who waits for another comes behind it; of those that wait for each other the one that is ahead comes first. inOrder: the row in which what is open is executed. copies.Entry. Run, the pieces: deeds in a row, what is deleted, execute of whatever. -/
import Derived.Test.YtcpgamidimfflaaGreatQ18
import Derived.Test.YtcpgamidimfflaaGreatQ33
import Derived.Test.YtcpgamidimfflaaGreatQ17
import Derived.Test.YtcpgamidimfflaaGreatQ23
import Derived.Test.YtcpgamidimfflaaGreatQ24
namespace Go.Proofs.YtcpgamidimfflaaGreat
open Go.RowKit Go.My Go.My.Kn
set_option linter.unusedSimpArgs false
set_option linter.unusedVariables false
theorem bef_filterMap {α β : Type} {g : α → Option β} {x y : α} {a b : β} (hx : g x = some a) (hy : g y = some b) : ∀ {l : List α}, bef x y l → bef a b (l.filterMap g)
  | [], h => absurd h (bef_nil _ _)
  | z :: l, h => by
    have hs : ∀ (v : β) (m : List β), bef a b m → bef a b (v :: m) := fun v m h => .inr h
    rcases h with ⟨rfl, hm⟩ | h
    · rw [List.filterMap_cons, hx]
      exact .inl ⟨rfl, List.mem_filterMap.2 ⟨y, hm, hy⟩⟩
    · have ih := bef_filterMap hx hy h
      rw [List.filterMap_cons]
      cases g z with
      | none => exact ih
      | some v => exact hs v _ ih
theorem bef_up {x y : Nat} (hlt : x < y) : ∀ {l : List Nat}, l.Pairwise (· < ·) → x ∈ l → y ∈ l → bef x y l
  | [], _, h, _ => by cases h
  | z :: l, hp, hx, hy => by
    rw [List.pairwise_cons] at hp
    rcases List.mem_cons.1 hx with e | hx'
    · rcases List.mem_cons.1 hy with e2 | hy'
      · omega
      · exact .inl ⟨e.symm, hy'⟩
    · rcases List.mem_cons.1 hy with e2 | hy'
      · have := hp.1 x hx'; omega
      · exact .inr (bef_up hlt hp.2 hx' hy')
theorem bef_flat {x y : Nat} : ∀ {L : List (List Nat)}, ix L x < ix L y → ix L y < L.length → bef x y L.flatten
  | [], _, h => absurd h (Nat.not_lt_zero _)
  | K :: L, h1, h2 => by
    rw [List.flatten_cons, bef_append]
    by_cases ey : y ∈ K
    · unfold ix at h1; rw [if_pos ey] at h1; omega
    · have e2 : ix (K :: L) y = ix L y + 1 := by conv => lhs; unfold ix
                                                 rw [if_neg ey]
      rw [e2] at h1 h2
      have h3 : ix L y < L.length := by simpa using h2
      by_cases ex : x ∈ K
      · exact .inr (.inl ⟨ex, List.mem_flatten.2 ⟨_, List.getElem_mem h3, ix_mem h3⟩⟩)
      · have e1 : ix (K :: L) x = ix L x + 1 := by conv => lhs; unfold ix
                                                   rw [if_neg ex]
        rw [e1] at h1
        exact .inr (.inr (bef_flat (by omega) h3))
theorem bef_knot {x y : Nat} {K : List Nat} (h : bef x y K) : ∀ {L : List (List Nat)}, K ∈ L → bef x y L.flatten
  | [], hm => by cases hm
  | K' :: L, hm => by
    rw [List.flatten_cons, bef_append]
    rcases List.mem_cons.1 hm with rfl | hm
    · exact .inl h
    · exact .inr (.inr (bef_knot h hm))
section
variable {ks : List In2} {dp : In2 → List In2} {G : List (List Int)} {L : List (List Nat)}
theorem via_dp (hG : GrK ks dp G) {i j : Nat} (hi : i < ks.length) (hj : j < ks.length) (hk : ∀ b, Dp2 ks dp ks[i] b → b ∈ ks) : via' G i j = true ↔ Dp2 ks dp ks[i] ks[j] := by
  rw [vtr]
  constructor
  · intro h
    have key : ∀ j, Tr (stp G) i j → ∃ hj : j < ks.length, Dp2 ks dp ks[i] ks[j] := fun j h => by
      induction h with
      | @one j h1 =>
        obtain ⟨_, h2, h3⟩ := (stp_iff G _ _).1 h1
        rw [hG.len] at h2
        exact ⟨h2, .one (List.getElem_mem hi) ((hG.row i hi j h2).1 h3)⟩
      | @more j k _ h1 ih =>
        obtain ⟨hj, hd⟩ := ih
        obtain ⟨_, h2, h3⟩ := (stp_iff G _ _).1 h1
        rw [hG.len] at h2
        exact ⟨h2, .more hd (List.getElem_mem hj) ((hG.row j hj k h2).1 h3)⟩
    exact (key j h).2
  · intro h
    have key : ∀ b, Dp2 ks dp ks[i] b → ∃ (j : Nat) (hj : j < ks.length), ks[j] = b ∧ Tr (stp G) i j := fun b h => by
      induction h with
      | @one b h1 h2 =>
        obtain ⟨j, hj, rfl⟩ := List.mem_iff_getElem.1 (hk b (.one h1 h2))
        exact ⟨j, hj, rfl, .one ((stp_iff G i j).2 ⟨by rw [hG.len]; exact hi, by rw [hG.len]; exact hj, (hG.row i hi j hj).2 h2⟩)⟩
      | @more b c h0 h1 h2 ih =>
        obtain ⟨j, hj, rfl, ht⟩ := ih
        obtain ⟨k, hk2, rfl⟩ := List.mem_iff_getElem.1 (hk c (.more h0 h1 h2))
        exact ⟨k, hk2, rfl, .more ht ((stp_iff G j k).2 ⟨by rw [hG.len]; exact hj, by rw [hG.len]; exact hk2, (hG.row j hj k hk2).2 h2⟩)⟩
    obtain ⟨k, hk2, e, ht⟩ := key _ h
    -- the same Inst may stand at two places only if the row is not a set; the row of G decides by Insts
    by_cases hkj : k = j
    · exact hkj ▸ ht
    · cases ht with
      | one h1 =>
        obtain ⟨p1, p2, p3⟩ := (stp_iff G _ _).1 h1
        exact .one ((stp_iff G i j).2 ⟨p1, by rw [hG.len]; exact hj, (hG.row i hi j hj).2 (e ▸ (hG.row i hi k hk2).1 p3)⟩)
      | @more m _ h0 h1 =>
        obtain ⟨p1, p2, p3⟩ := (stp_iff G _ _).1 h1
        rw [hG.len] at p1
        exact .more h0 ((stp_iff G m j).2 ⟨by rw [hG.len]; exact p1, by rw [hG.len]; exact hj, (hG.row m p1 j hj).2 (e ▸ (hG.row m p1 k hk2).1 p3)⟩)
theorem row_ord (hr : RiseI ks) (hG : GrK ks dp G) (hs : KnSeq ks.length (via' G) [] L) {p : In2 → Bool} {a b : In2} (ha : a ∈ runRow ks L p) (hb : b ∈ runRow ks L p) (oa : Opn ks dp a) (ob : Opn ks dp b) (hd : Dp2 ks dp a b)
    (hn : Dp2 ks dp b a → aheadI b a = true) (hne : a ≠ b) : bef b a (runRow ks L p) := by
  have hs' : KnSeq G.length (via' G) [] L := by rw [hG.len]; exact hs
  have wf := whole_of hs'
  have hre : Go.My.Kn.Reach ks.length (via' G) := by rw [← hG.len]; exact (reachR G).toReach
  obtain ⟨i, hi, rfl⟩ := List.mem_iff_getElem.1 oa.1
  obtain ⟨j, hj, rfl⟩ := List.mem_iff_getElem.1 ob.1
  have pa := ((runRow_mem hre hs p _).1 ha).2
  have pb := ((runRow_mem hre hs p _).1 hb).2
  have hi' : i < G.length := by rw [hG.len]; exact hi
  have hj' : j < G.length := by rw [hG.len]; exact hj
  unfold runRow
  refine (bef_filter _ _ _ _).2 ⟨bef_filterMap (x := j) (y := i) (List.getElem?_eq_getElem hj) (List.getElem?_eq_getElem hi) ?_, pb, pa⟩
  have h1 := wf.ord i j hi' hj' ((via_dp hG hi hj oa.2).2 hd)
  rcases Nat.lt_or_ge (ix L j) (ix L i) with h2 | h2
  · exact bef_flat h2 (wf.all i hi')
  · have e : ix L i = ix L j := by omega
    have hil := wf.all i hi'
    have hjl := wf.all j hj'
    have m1 := ix_mem hil
    have m2 := ix_mem hjl
    simp only [← e] at m2
    have hij : j ≠ i := by rintro rfl; exact hne rfl
    have hv := wf.two _ (List.getElem_mem hil) j m2 i m1 hij
    have h3 := hn ((via_dp hG hj hi ob.2).1 hv)
    have hlt : j < i := by
      rcases Nat.lt_trichotomy j i with c | c | c
      · exact c
      · exact absurd c hij
      · have := List.pairwise_iff_getElem.1 hr i j hi hj c
        rw [aheadI_asymm this] at h3
        cases h3
    exact bef_knot (bef_up hlt (wf.up _ (List.getElem_mem hil)) m2 m1) (List.getElem_mem hil)
end
theorem RunOf.ord {s : Ru} (hi : RuI s) {row : List In2} (h : RunOf s row) {a b : In2} (ha : a ∈ row) (hb : b ∈ row) (hd : Dp2 s.ks s.dp a b) (hn : Dp2 s.ks s.dp b a → aheadI b a = true) (hne : a ≠ b) : bef b a row := by
  obtain ⟨h1, h2, h3⟩ := h
  rcases h3 with h3 | ⟨G, L, p, h4, h5, h6, rfl⟩
  · match row, h3, ha, hb with
    | [x], _, ha, hb =>
      rw [List.mem_singleton] at ha hb
      exact absurd (ha.trans hb.symm) hne
  · exact row_ord hi.rise h4 h5 ha hb ((h2 a).1 ha).1 ((h2 b).1 hb).1 hd hn hne
end Go.Proofs.YtcpgamidimfflaaGreat
namespace Go.Proofs.YtcpgamidimfflaaGreat
open Go.RowKit Go.My Go.My.Kn Go.Maps Go.WideMaps
set_option linter.unusedSimpArgs false
set_option linter.unusedVariables false
attribute [local go_sem ↓] Go.wp_at_zero Go.wp_at_succ
def rowT (ks : List In2) (M : List Nat) (p : In2 → Bool) (k : Nat) : List In2 := ((M.take k).filterMap fun i => ks[i]?).filter p
theorem rowT_step {ks : List In2} {M : List Nat} {p : In2 → Bool} {k : Nat} (hk : k < M.length) (hj : M[k] < ks.length) : rowT ks M p (k + 1) = rowT ks M p k ++ (if p ks[M[k]] = true then [ks[M[k]]] else []) := by
  unfold rowT
  rw [List.take_succ_eq_append_getElem hk, List.filterMap_append, List.filter_append, List.filterMap_cons, List.getElem?_eq_getElem hj, List.filterMap_nil]
  simp only [List.filter_cons, List.filter_nil]
theorem rowT_len (ks : List In2) (M : List Nat) (p : In2 → Bool) (k : Nat) : (rowT ks M p k).length ≤ M.length := by
  unfold rowT
  refine Nat.le_trans (List.length_filter_le _ _) (Nat.le_trans (List.length_filterMap_le _ _) ?_)
  rw [List.length_take]
  omega
def InRl (w0 : World) (ks : List In2) (M : List Nat) (p : In2 → Bool) (lv iv : Value) (wr : World) : Prop := ∃ k : Nat, k ≤ M.length ∧ iv = .int .i64 (k : Int) ∧ Own wr 30 2 lv (rowT ks M p k).length (ins2 (rowT ks M p k)) ∧ Fr No w0 wr ∧ Newer w0.heap.size none lv.ownBlock
def RowRet (w : World) (F : Nat → Prop) (s : Ru) (e : Ending) (w' : World) : Prop := ∃ (row : List In2) (A : Option Addr) (c : Nat), RunOf s row ∧ e = .returned (.slice A row.length c) ∧ Rd w' (fun k => F k ∨ w.heap.size ≤ k) 2 A row.length (ins2 row) ∧ Fr No w w'
set_option maxRecDepth 100000 in
set_option maxHeartbeats 4000000 in
theorem rinorder_any (w : World) (r : Pr) (s : Ru) (F : Nat → Prop) (A : Option Addr) (c : Nat) (O : List In2) (h : RnS w r s) (hn : s.ks.length ≤ 60) (hm : ∀ i, (s.dp i).length ≤ 30) (hO : O.Nodup) (hOm : ∀ a, a ∈ O ↔ Opn s.ks s.dp a ∧ s.wt a = true) (hr : Rd w F 2 A O.length (ins2 O)) :
    Calls Tryz.prog 53 #[.pointer (some ⟨r.p, 0, none⟩), .slice A O.length c] w (RowRet w F s) := by
  by_cases h2 : O.length < 2
  · have HX : Hid (RunOf s O ∧ Rd w (fun k => F k ∨ w.heap.size ≤ k) 2 A O.length (ins2 O)) := Lib.hid ⟨⟨hO, hOm, .inl h2⟩, hr.more fun _ h => .inl h⟩
    have h2I : (O.length : Int) < 2 := by omega
    clear h hO hOm hr hn hm
    go_enter Tryz.func53, Tryz.ntmps53
    go_wp2
    go_ret
    exact ⟨O, A, c, HX.out.1, rfl, HX.out.2, Fr.refl _ _⟩
  · have hks : ∀ i ∈ O, i ∈ s.ks := fun i hi => ((hOm i).1 hi).1.1
    have hol : O.length ≤ 60 := Nat.le_trans (nodup_len hO hks).1 hn
    have HNU := Lib.hid (numbers_any w F A c O hr (by omega) fun i hi => rightI_ok (h.inv.ri i (hks i hi)))
    have HKN : Hid (∀ W, Fr No w W → Calls Tryz.prog 25 #[.pointer (some ⟨r.p, 0, none⟩)] W (RetOwn W 30 2 none s.ks.length (ins2 s.ks))) := Lib.hid fun W hW => knowns_any W r s (h.no hW)
    have HGR : Hid (∀ (W : World) (F : Nat → Prop) (A : Option Addr) (c : Nat), Fr No w W → Rd W F 2 A s.ks.length (ins2 s.ks) → Calls Tryz.prog 89 #[.pointer (some ⟨r.p, 0, none⟩), .slice A s.ks.length c, .int .i64 (-1)] W fun e w' => ∃ (gs : Nat) (vs : List Value), e = .returned (.slice (some ⟨gs, 0, none⟩) s.ks.length s.ks.length) ∧ IRows W.heap.size w' gs vs (graphL s s.ks (-1)) ∧ Fr No W w') := Lib.hid fun W F A c hW hR => by
      have h1 := graph_any W r s F A c s.ks (-1) (h.no hW) hR (fun i hi => hi) (by omega) (fun i => Nat.le_trans (hm i) (by omega))
      unfold RetG at h1
      rw [graphL_len] at h1
      exact h1
    have hGlen : (graphL s s.ks (-1)).length = s.ks.length := graphL_len _ _ _
    have HOR : Hid (∀ (W : World) (F : Nat → Prop) (A : Option Addr) (c : Nat), RdG W F A (graphL s s.ks (-1)) → Calls Tryz.prog 88 #[.slice A s.ks.length c] W fun e w' => ∃ L M, M = L.flatten ∧ KnSeq s.ks.length (via' (graphL s s.ks (-1))) [] L ∧ M.length = s.ks.length ∧ (∀ j ∈ M, j < s.ks.length) ∧ RetOwn W 3 1 none M.length (is_ (il M)) e w') := Lib.hid fun W F A c hG => by
      have h1 := order_any2 W F A c 30 (graphL s s.ks (-1)) hG (by omega) (fun L hL => by
        unfold graphL at hL
        obtain ⟨i, _, rfl⟩ := List.mem_map.1 hL
        have := rowG_le s.ks s.ks (-1) (s.dp i)
        have := hm i
        omega) (by omega) (by omega)
      have hwl := fun L (hL : KnSeq (graphL s s.ks (-1)).length (via' (graphL s s.ks (-1))) [] L) => (whole_of hL).len
      have hre : Go.My.Kn.Reach s.ks.length (via' (graphL s s.ks (-1))) := by rw [← hGlen]; exact (reachR _).toReach
      rw [hGlen] at h1 hwl
      refine h1.mono ?_
      rintro e w' ⟨L, k1, k2⟩
      exact ⟨L, _, rfl, k1, hwl L k1, fun j hj => (seq_mem hre k1 j).1 hj, k2⟩
    have HRO : Hid (∀ L, KnSeq s.ks.length (via' (graphL s s.ks (-1))) [] L → RunOf s (runRow s.ks L fun a => decide (a ∈ O))) := Lib.hid fun L hL => by
      have hre : Go.My.Kn.Reach s.ks.length (via' (graphL s s.ks (-1))) := by rw [← hGlen]; exact (reachR _).toReach
      refine ⟨runRow_nodup hre hL h.inv.rise.nodup _, fun a => ?_, .inr ⟨_, L, _, graphL_K s h.inv.rise, hL, fun a => ?_, rfl⟩⟩
      · rw [runRow_mem hre hL, decide_eq_true_iff, hOm]
        exact ⟨fun k => k.2, fun k => ⟨k.1.1, k⟩⟩
      · rw [decide_eq_true_iff, hOm]
    have HOKS : Hid (∀ i ∈ s.ks, IdOk i) := Lib.hid fun i hi => rightI_ok (h.inv.ri i hi)
    have h2I : ¬ (O.length : Int) < 2 := by omega
    clear h hO hOm hr hm hks hGlen h2
    generalize hkn : s.ks.length = n at *
    have HNN := Lib.hid hkn
    clear hkn
    go_enter Tryz.func53, Tryz.ntmps53
    go_wp2_with (first
      | (go_at_call 87; (with_reducible refine HNU.out.mono ?_); rintro _ w1 ⟨m, rfl, p1, p2, p3⟩; have HN1 := Lib.hid p1; have HF1 := Lib.hid p2; clear p1 p2 p3)
      | (go_at_call 25; (with_reducible refine (HKN.out _ HF1.out).mono ?_); rintro _ w2 ⟨v2, rfl, ho2, hf2, hn2⟩; obtain ⟨A2, c2, rfl, -, -⟩ := ho2.form; have HO2 := Lib.hid ho2; have HF2 := Lib.hid (Fr.trans HF1.out (fr_at_none hf2)); have HF12 := Lib.hid (fr_at_none hf2); clear ho2 hf2 hn2)
      | (go_at_call 89; (with_reducible refine (HGR.out _ _ A2 c2 HF2.out HO2.out.rd).mono ?_); rintro _ w3 ⟨gs, vs, rfl, hI3, hf3⟩; have HI3 := Lib.hid hI3; have HF3 := Lib.hid hf3; clear hI3 hf3)
      | (go_at_call 88; (with_reducible refine (HOR.out _ _ _ _ HI3.out.rdG).mono ?_); rintro _ w4 ⟨L, M, hm4, hk4, hl4, hj4, v4, rfl, ho4, hf4, hn4⟩; obtain ⟨A4, c4, rfl, -, -⟩ := ho4.form; have HM := Lib.hid hm4; have HK4 := Lib.hid hk4; have HL4 := Lib.hid hl4; have HJ4 := Lib.hid hj4; have HO4 := Lib.hid ho4; have HF4 := Lib.hid (fr_at_none hf4); clear hm4 hk4 hl4 hj4 ho4 hf4 hn4))
    have HFW : Hid (Fr No w w4) := Lib.hid ((HF2.out.trans HF3.out).trans HF4.out)
    have HNU4 : Hid (NuT w4 m O) := Lib.hid (HN1.out.no ((HF12.out.trans HF3.out).trans HF4.out))
    have HKS : Hid (Rd w4 (fun _ => True) 2 A2 n (ins2 s.ks)) := Lib.hid ((HO2.out.fr (HF3.out.trans HF4.out) (fun _ _ h => h)).rd.more fun _ _ => trivial)
    have HL4' : Hid (Rd w4 (fun _ => True) 1 A4 M.length (is_ (il M))) := Lib.hid (HO4.out.rd.more fun _ _ => trivial)
    have hml : M.length ≤ 60 := by rw [HL4.out]; exact hn
    clear HN1 HF1 HO2 HF2 HF12 HI3 HF3 HO4 HF4 HNU HKN HGR HOR
    obtain ⟨p, hp⟩ : ∃ p : In2 → Bool, p = fun a => decide (a ∈ O) := ⟨_, rfl⟩
    have HP := Lib.hid hp
    clear hp
    go_loopw [7, 25] (fun lv iv wr => InRl w4 s.ks M p lv iv wr) (fun _ iv _ => M.length - (intOf iv).toNat)
    case atStart => exact ⟨0, Nat.zero_le _, rfl, Own.nil _ _ _, Fr.refl _ _, .inl rfl⟩
    case round =>
      obtain ⟨k, hk, rfl, hown, hfr, hnew⟩ := hrel
      by_cases hlt : k < M.length
      · have hil : (il M).length = M.length := by unfold il; rw [List.length_map]
        have hrl := HL4'.out.fr (by decide) hfr (fun _ _ _ h => h)
        obtain ⟨ad2, u, rfl, _, hu, hx⟩ := hrl.at_ hlt
        rw [is_at _ k (by rw [hil]; exact hlt)] at hu
        injection hu with hu
        subst hu
        have hjk := HJ4.out _ (List.getElem_mem hlt)
        have eil : (il M)[k]'(by rw [hil]; exact hlt) = (M[k] : Int) := by unfold il; rw [List.getElem_map]
        rw [eil] at hx
        have hrd := HKS.out.fr (by decide) hfr (fun _ _ _ h => h)
        rw [← HNN.out] at hrd
        obtain ⟨ad3, rfl, _, p0, p1⟩ := in2_at hrd M[k] (by rw [HNN.out]; exact hjk)
        have HST := Lib.hid (rowT_step (p := p) hlt (show M[k] < s.ks.length by rw [HNN.out]; exact hjk))
        have hxo := HOKS.out _ (List.getElem_mem (show M[k] < s.ks.length by rw [HNN.out]; exact hjk))
        have hnl := (HNU4.out.no hfr).look (s.ks[M[k]]'(by rw [HNN.out]; exact hjk)) hxo
        have hpx : p (s.ks[M[k]]'(by rw [HNN.out]; exact hjk)) = (posF O (s.ks[M[k]]'(by rw [HNN.out]; exact hjk))).isSome := by rw [HP.out, posF_isSome]
        have hrle := rowT_len s.ks M p k
        generalize s.ks[M[k]]'(by rw [HNN.out]; exact hjk) = x at *
        have HPX := Lib.hid hpx
        clear hpx hrd hrl eil hil
        obtain ⟨x1, x2⟩ := x
        generalize posF O (x1, x2) = pf at *
        simp only at p0 p1 hnl
        have HOWN := Lib.hid hown
        have HFR := Lib.hid hfr
        have HNEW := Lib.hid hnew
        clear hown hfr hnew
        generalize M[k] = j at *
        cases pf with
        | none =>
          have e1 : rowT s.ks M p (k + 1) = rowT s.ks M p k := by rw [HST.out, if_neg (by rw [HPX.out]; decide), List.append_nil]
          rw [← e1] at HOWN
          simp only [posO, Option.isSome_none] at hnl
          clear e1 HST
          go_wp2
          go_roundw
          case rel => exact ⟨k + 1, hlt, by go_num, HOWN.out, HFR.out, HNEW.out⟩
          case measure => simp [intOf]; omega
        | some q =>
          have e1 : rowT s.ks M p (k + 1) = rowT s.ks M p k ++ [(x1, x2)] := by rw [HST.out, if_pos (by rw [HPX.out]; rfl)]
          have E1 := Lib.hid e1
          simp only [posO, Option.isSome_some] at hnl
          clear e1 HST
          generalize hrn : (rowT s.ks M p k).length = rn at *
          have HRN := Lib.hid hrn
          clear hrn
          go_wp2_with (at_builtin; refine wpList_app _ rfl (.tmp 39) (.tmp 44) 36 36 rfl elIn (HOWN.out.alloc (.cells #[.int .i64 x1, .int .i64 x2] 30)) rfl (Src.of_new (cs := #[.int .i64 x1, .int .i64 x2]) (t := 30) wr.heap.size (heap_alloc_new wr _) Tryz.underlying36 rfl (by simp [Value.oneCell'])) rfl (by simp only [maxLen]; omega) (by omega) ?_; intro v7 w7 hown7 hfr7 hnew7)
          have HO7 : Hid (Own w7 30 2 v7 (rowT s.ks M p (k + 1)).length (ins2 (rowT s.ks M p (k + 1)))) := Lib.hid (by rw [E1.out, ins2_append, List.length_append, HRN.out]; exact hown7)
          have HF7 : Hid (Fr No w4 w7) := Lib.hid (fr_no HFR.out HNEW.out (Fr.trans ((Fr.refl _ _).alloc _) hfr7))
          have HN7 : Hid (Newer w4.heap.size none v7.ownBlock) := Lib.hid (HNEW.out.trans (Newer.of hnew7) (by have := HFR.out.size; simp; omega))
          clear hown7 hfr7 hnew7
          go_roundw
          case rel => exact ⟨k + 1, hlt, by go_num, HO7.out, HF7.out, HN7.out⟩
          case measure => simp [intOf]; omega
      · obtain rfl : k = M.length := by omega
        have e1 : rowT s.ks M p M.length = runRow s.ks L p := by unfold rowT runRow; rw [List.take_length, HM.out]
        rw [e1] at hown
        obtain ⟨A7, c7, rfl, -, -⟩ := hown.form
        have HOWN := Lib.hid hown
        have HFR := Lib.hid hfr
        have HNEW := Lib.hid hnew
        have HRW : Hid (RunOf s (runRow s.ks L p)) := Lib.hid (by rw [HP.out]; exact HRO.out L HK4.out)
        clear hown hfr hnew e1
        generalize runRow s.ks L p = row at *
        go_wp2
        go_ret
        refine ⟨row, A7, c7, HRW.out, rfl, HOWN.out.rd.more fun k hk => .inr ?_, HFW.out.trans HFR.out⟩
        have hws := HFW.out.size
        rcases HNEW.out with e | ⟨j, e, hj⟩
        · rw [e] at hk; cases hk
        · rw [e] at hk; injection hk with hk; omega
end Go.Proofs.YtcpgamidimfflaaGreat
namespace Go.Proofs.YtcpgamidimfflaaGreat
open Go.RowKit Go.My Go.Maps
set_option linter.unusedSimpArgs false
set_option linter.unusedVariables false
attribute [local go_sem ↓] Go.wp_at_zero Go.wp_at_succ
def EntRet (w : World) (e : En) (x : Ending) (w' : World) : Prop := ∃ B b A c, x = .returned (e.val (.slice B e.o.legs.length b) (.slice A e.deps.length c)) ∧ EnS w' (New w.heap.size w' none) e (.slice B e.o.legs.length b) A c ∧ Fr No w w'
set_option maxRecDepth 100000 in
set_option maxHeartbeats 2000000 in
theorem copyE_any (F : Nat → Prop) (e : En) (v : Value) (A : Option Addr) (c : Nat) (w : World) (h : EnS w F e v A c) (hl : e.o.legs.length ≤ 100000) (hd : e.deps.length ≤ 1000000) :
    Calls Tryz.prog 50 #[e.val v (.slice A e.deps.length c)] w (EntRet w e) := by
  have HOK : Hid e.o.ok := h.ok
  have HCO : Hid (∀ W, Fr No w W → Calls Tryz.prog 61 #[e.o.val v] W (OrdRet W e.o)) := Lib.hid fun W hW => copyO_any F e.o v W (h.legs.no hW) hl
  have HCD : Hid (∀ W, Fr No w W → Calls Tryz.prog 86 #[.slice A e.deps.length c] W (RetOwn W 30 2 none e.deps.length (ins2 e.deps))) := Lib.hid fun W hW => cloneIn_any F A c e.deps W (h.no hW).deps hd
  obtain ⟨vB, vd, rfl, -, -⟩ := h.legs.form
  clear h hl hd
  obtain ⟨⟨ocl, osq, okd, oac, ope, osm, olg, opr, ohd, ont⟩, bn, ds⟩ := e
  unfold EntRet En.val
  unfold OrdRet Od.val Od.cs at HCO
  simp only at HCO HCD ⊢
  have HLEN : Hid (olg.length = olg.length) := rfl
  generalize hvn : olg.length = vn at *
  generalize hqn : ds.length = q at *
  have HVN := Lib.hid hvn
  have HQN := Lib.hid hqn
  clear hvn hqn
  have hbo := (Blk.new w 38 #[.int .i64 ocl, .int .i64 osq, .int .i64 okd, .string oac, .string ope, .int .i64 osm, .slice vB vn vd, .int .i64 opr, .int .i64 ohd, .string ont, .bool bn, .slice A q c]).alloc (.cells #[.int .i64 0, .int .i64 0, .int .i64 0, .string ⟨#[]⟩, .string ⟨#[]⟩, .int .i64 0, .slice none 0 0, .int .i64 0, .int .i64 0, .string ⟨#[]⟩, .bool false, .slice none 0 0] 38)
  have hbz := Blk.new (w.alloc (.cells #[.int .i64 ocl, .int .i64 osq, .int .i64 okd, .string oac, .string ope, .int .i64 osm, .slice vB vn vd, .int .i64 opr, .int .i64 ohd, .string ont, .bool bn, .slice A q c] 38)) 38 #[.int .i64 0, .int .i64 0, .int .i64 0, .string ⟨#[]⟩, .string ⟨#[]⟩, .int .i64 0, .slice none 0 0, .int .i64 0, .int .i64 0, .string ⟨#[]⟩, .bool false, .slice none 0 0]
  rw [World.size_alloc] at hbz
  have hf1 : Fr No w ((w.alloc (.cells #[.int .i64 ocl, .int .i64 osq, .int .i64 okd, .string oac, .string ope, .int .i64 osm, .slice vB vn vd, .int .i64 opr, .int .i64 ohd, .string ont, .bool bn, .slice A q c] 38)).alloc (.cells #[.int .i64 0, .int .i64 0, .int .i64 0, .string ⟨#[]⟩, .string ⟨#[]⟩, .int .i64 0, .slice none 0 0, .int .i64 0, .int .i64 0, .string ⟨#[]⟩, .bool false, .slice none 0 0] 38)) := ((Fr.refl _ _).alloc _).alloc _
  have hsz : ((w.alloc (.cells #[.int .i64 ocl, .int .i64 osq, .int .i64 okd, .string oac, .string ope, .int .i64 osm, .slice vB vn vd, .int .i64 opr, .int .i64 ohd, .string ont, .bool bn, .slice A q c] 38)).alloc (.cells #[.int .i64 0, .int .i64 0, .int .i64 0, .string ⟨#[]⟩, .string ⟨#[]⟩, .int .i64 0, .slice none 0 0, .int .i64 0, .int .i64 0, .string ⟨#[]⟩, .bool false, .slice none 0 0] 38)).heap.size = w.heap.size + 2 := by rw [World.size_alloc, World.size_alloc]
  go_enter Tryz.func50, Tryz.ntmps50
  go_upto_region 1 with (fail)
  generalize ((w.alloc (.cells #[.int .i64 ocl, .int .i64 osq, .int .i64 okd, .string oac, .string ope, .int .i64 osm, .slice vB vn vd, .int .i64 opr, .int .i64 ohd, .string ont, .bool bn, .slice A q c] 38)).alloc (.cells #[.int .i64 0, .int .i64 0, .int .i64 0, .string ⟨#[]⟩, .string ⟨#[]⟩, .int .i64 0, .slice none 0 0, .int .i64 0, .int .i64 0, .string ⟨#[]⟩, .bool false, .slice none 0 0] 38)) = w2 at *
  have HF1 := Lib.hid hf1
  have HSZ := Lib.hid hsz
  have HX : Hid (∀ W, Fr No w2 W → Fr No w2 W ∧ W.cell? ⟨w.heap.size, 0, none⟩ = some (.int .i64 ocl) ∧ W.cell? ⟨w.heap.size, 1, none⟩ = some (.int .i64 osq) ∧ W.cell? ⟨w.heap.size, 2, none⟩ = some (.int .i64 okd) ∧ W.cell? ⟨w.heap.size, 3, none⟩ = some (.string oac) ∧ W.cell? ⟨w.heap.size, 4, none⟩ = some (.string ope) ∧ W.cell? ⟨w.heap.size, 5, none⟩ = some (.int .i64 osm) ∧ W.cell? ⟨w.heap.size, 6, none⟩ = some (.slice vB vn vd) ∧ W.cell? ⟨w.heap.size, 7, none⟩ = some (.int .i64 opr) ∧ W.cell? ⟨w.heap.size, 8, none⟩ = some (.int .i64 ohd) ∧ W.cell? ⟨w.heap.size, 9, none⟩ = some (.string ont) ∧ W.cell? ⟨w.heap.size, 10, none⟩ = some (.bool bn) ∧ W.cell? ⟨w.heap.size, 11, none⟩ = some (.slice A q c)) := Lib.hid fun W hW => by
    have h := hbo.fr hW (fun h => h)
    exact ⟨hW, h.cell 0, h.cell 1, h.cell 2, h.cell 3, h.cell 4, h.cell 5, h.cell 6, h.cell 7, h.cell 8, h.cell 9, h.cell 10, h.cell 11⟩
  have HBO := Lib.hid hbo
  have HBZ := Lib.hid hbz
  have hww : Fr No w2 w2.drew := (Fr.refl _ _).drew
  clear hbo hbz hf1 hsz
  obtain ⟨_, x0, x1, x2, x3, x4, x5, x6, x7, x8, x9, x10, x11⟩ := HX.out _ hww
  go_region_law (first
      | (go_simp; go_at_call 61; (with_reducible refine (HCO.out _ (HF1.out.trans hww)).mono ?_); rintro x u1 ⟨A1, c1, rfl, hL1, f1⟩; have g1 := Fr.trans hww f1; have HL1 := Lib.hid hL1; have HG1 := Lib.hid f1; have hb1 := Blk.fr HBO.out g1 (fun h => h); have x11' := hb1.cell 11; simp only [List.getElem?_toArray, List.getElem?_cons_zero, List.getElem?_cons_succ] at x11'; clear hL1 hb1)
      | (go_simp; go_at_call 86; (with_reducible refine (HCD.out _ (HF1.out.trans g1)).mono ?_); rintro x u2 ⟨v2, rfl, ho2, hf2, hn2⟩; obtain ⟨A2, c2, rfl, hc21, hc22⟩ := ho2.form; have HC2 := Lib.hid (And.intro hc21 hc22); have f2 := fr_at_none hf2; have g2 := Fr.trans g1 f2; have HO2 := Lib.hid ho2; have HN2 := Lib.hid hn2; have HG2 := Lib.hid f2; have hb2 := Blk.fr HBO.out g2 (fun h => h); have k0 := hb2.frozen 0; have k1 := hb2.frozen 1; have k2 := hb2.frozen 2; have k3 := hb2.frozen 3; have k4 := hb2.frozen 4; have k5 := hb2.frozen 5; have k6 := hb2.frozen 6; have k7 := hb2.frozen 7; have k8 := hb2.frozen 8; have k9 := hb2.frozen 9; have k11 := hb2.frozen 11; have m0 := hb2.cell 0; have m1 := hb2.cell 1; have m2 := hb2.cell 2; have m3 := hb2.cell 3; have m4 := hb2.cell 4; have m5 := hb2.cell 5; have m6 := hb2.cell 6; have m7 := hb2.cell 7; have m8 := hb2.cell 8; have m9 := hb2.cell 9; have m11 := hb2.cell 11; simp only [List.getElem?_toArray, List.getElem?_cons_zero, List.getElem?_cons_succ] at m0 m1 m2 m3 m4 m5 m6 m7 m8 m9 m11; clear ho2 hn2 hf2 hb2))
  all_goals
    have hbe := ((((((((((((HBO.out.fr g2 (fun h => h)).set_ 0 (.int .i64 ocl)).set_ 1 (.int .i64 osq)).set_ 2 (.int .i64 okd)).set_ 3 (.string oac)).set_ 4 (.string ope)).set_ 5 (.int .i64 osm)).set_ 6 (.slice A1 vn c1)).set_ 7 (.int .i64 opr)).set_ 8 (.int .i64 ohd)).set_ 9 (.string ont)).set_ 11 (.slice A2 q c2))
    have HFE : Hid (Fr (At1 w.heap.size) u2 (((((((((((u2.setCell ⟨w.heap.size, 0, none⟩ (.int .i64 ocl)).setCell ⟨w.heap.size, 1, none⟩ (.int .i64 osq)).setCell ⟨w.heap.size, 2, none⟩ (.int .i64 okd)).setCell ⟨w.heap.size, 3, none⟩ (.string oac)).setCell ⟨w.heap.size, 4, none⟩ (.string ope)).setCell ⟨w.heap.size, 5, none⟩ (.int .i64 osm)).setCell ⟨w.heap.size, 6, none⟩ (.slice A1 vn c1)).setCell ⟨w.heap.size, 7, none⟩ (.int .i64 opr)).setCell ⟨w.heap.size, 8, none⟩ (.int .i64 ohd)).setCell ⟨w.heap.size, 9, none⟩ (.string ont)).setCell ⟨w.heap.size, 11, none⟩ (.slice A2 q c2))) := Lib.hid ((fr_set10 u2 w.heap.size (.int .i64 ocl) (.int .i64 osq) (.int .i64 okd) (.string oac) (.string ope) (.int .i64 osm) (.slice A1 vn c1) (.int .i64 opr) (.int .i64 ohd) (.string ont)).trans (fr_set _ w.heap.size 11 _))
    simp only [List.setIfInBounds_toArray, List.set_cons_zero, List.set_cons_succ] at hbe
    have x0 := hbe.cell 0
    have x1 := hbe.cell 1
    have x2 := hbe.cell 2
    have x3 := hbe.cell 3
    have x4 := hbe.cell 4
    have x5 := hbe.cell 5
    have x6 := hbe.cell 6
    have x7 := hbe.cell 7
    have x8 := hbe.cell 8
    have x9 := hbe.cell 9
    have x10 := hbe.cell 10
    have x11 := hbe.cell 11
    simp only [List.getElem?_toArray, List.getElem?_cons_zero, List.getElem?_cons_succ] at x0 x1 x2 x3 x4 x5 x6 x7 x8 x9 x10 x11
    generalize (((((((((((u2.setCell ⟨w.heap.size, 0, none⟩ (.int .i64 ocl)).setCell ⟨w.heap.size, 1, none⟩ (.int .i64 osq)).setCell ⟨w.heap.size, 2, none⟩ (.int .i64 okd)).setCell ⟨w.heap.size, 3, none⟩ (.string oac)).setCell ⟨w.heap.size, 4, none⟩ (.string ope)).setCell ⟨w.heap.size, 5, none⟩ (.int .i64 osm)).setCell ⟨w.heap.size, 6, none⟩ (.slice A1 vn c1)).setCell ⟨w.heap.size, 7, none⟩ (.int .i64 opr)).setCell ⟨w.heap.size, 8, none⟩ (.int .i64 ohd)).setCell ⟨w.heap.size, 9, none⟩ (.string ont)).setCell ⟨w.heap.size, 11, none⟩ (.slice A2 q c2)) = W5 at *
    have hbz := (HBZ.out.fr g2 (fun h => h)).fr HFE.out (fun e => by have e : w.heap.size + 1 = w.heap.size := e; omega)
    have z0 := hbz.cell 0
    have z1 := hbz.cell 1
    have z2 := hbz.cell 2
    have z3 := hbz.cell 3
    have z4 := hbz.cell 4
    have z5 := hbz.cell 5
    have z6 := hbz.cell 6
    have z7 := hbz.cell 7
    have z8 := hbz.cell 8
    have z9 := hbz.cell 9
    have z10 := hbz.cell 10
    have z11 := hbz.cell 11
    have y0 := hbz.frozen 0
    have y1 := hbz.frozen 1
    have y2 := hbz.frozen 2
    have y3 := hbz.frozen 3
    have y4 := hbz.frozen 4
    have y5 := hbz.frozen 5
    have y6 := hbz.frozen 6
    have y7 := hbz.frozen 7
    have y8 := hbz.frozen 8
    have y9 := hbz.frozen 9
    have y10 := hbz.frozen 10
    have y11 := hbz.frozen 11
    simp only [List.getElem?_toArray, List.getElem?_cons_zero, List.getElem?_cons_succ] at z0 z1 z2 z3 z4 z5 z6 z7 z8 z9 z10 z11
    have HBZ5 := Lib.hid hbz
    have HF1u : Hid (Fr No w u2) := Lib.hid (HF1.out.trans g2)
    have HS1 : Hid (w.heap.size + 2 ≤ u1.heap.size) := Lib.hid (by have := g1.size; have := HSZ.out; omega)
    have HS2 : Hid (u1.heap.size ≤ u2.heap.size) := Lib.hid HG2.out.size
    have HSW : Hid (w2.drew.heap.size = w.heap.size + 2) := Lib.hid HSZ.out
    clear hbe hbz k0 k1 k2 k3 k4 k5 k6 k7 k8 k9 k11 m0 m1 m2 m3 m4 m5 m6 m7 m8 m9 m11 g1 g2 f1 f2 hww x11'
    go_wp2
    have hd := ((((((((((((HBZ5.out.set_ 0 (.int .i64 ocl)).set_ 1 (.int .i64 osq)).set_ 2 (.int .i64 okd)).set_ 3 (.string oac)).set_ 4 (.string ope)).set_ 5 (.int .i64 osm)).set_ 6 (.slice A1 vn c1)).set_ 7 (.int .i64 opr)).set_ 8 (.int .i64 ohd)).set_ 9 (.string ont)).set_ 10 (.bool bn)).set_ 11 (.slice A2 q c2))
    simp only [List.setIfInBounds_toArray, List.set_cons_zero, List.set_cons_succ] at hd
    have d0 := hd.cell 0
    have d1 := hd.cell 1
    have d2 := hd.cell 2
    have d3 := hd.cell 3
    have d4 := hd.cell 4
    have d5 := hd.cell 5
    have d6 := hd.cell 6
    have d7 := hd.cell 7
    have d8 := hd.cell 8
    have d9 := hd.cell 9
    have d10 := hd.cell 10
    have d11 := hd.cell 11
    simp only [List.getElem?_toArray, List.getElem?_cons_zero, List.getElem?_cons_succ] at d0 d1 d2 d3 d4 d5 d6 d7 d8 d9 d10 d11
    have HF6 := Lib.hid (fr_set12 W5 (w.heap.size + 1) (.int .i64 ocl) (.int .i64 osq) (.int .i64 okd) (.string oac) (.string ope) (.int .i64 osm) (.slice A1 vn c1) (.int .i64 opr) (.int .i64 ohd) (.string ont) (.bool bn) (.slice A2 q c2))
    refine bodyPost_ret (v := .agg #[.int .i64 ocl, .int .i64 osq, .int .i64 okd, .string oac, .string ope, .int .i64 osm, .slice A1 vn c1, .int .i64 opr, .int .i64 ohd, .string ont, .bool bn, .slice A2 q c2]) (by simp [results, Tryz.results50, go_sem, d0, d1, d2, d3, d4, d5, d6, d7, d8, d9, d10, d11]) rfl ?_
    have hs1 := HS1.out
    have hs2 := HS2.out
    have hs3 := HFE.out.size
    have hs4 := HF6.out.size
    have hsw := HSW.out
    refine ⟨A1, c1, A2, c2, rfl, ⟨HOK.out, ?_, ?_, ⟨by show ds.length ≤ c2; rw [HQN.out]; exact HC2.out.1, HC2.out.2⟩⟩, ?_⟩
    · refine (((HL1.out.frS HG2.out (fun _ _ _ h => h)).frS HFE.out (fun k hk _ e => ?_)).frS HF6.out (fun k hk _ e => ?_)).more fun k hk => ?_
      · have e : k = w.heap.size := e
        have := hk.1
        omega
      · have e : k = w.heap.size + 1 := e
        have := hk.1
        omega
      · exact ⟨by have := hk.1; omega, by have := hk.2.1; omega, fun h => by cases h⟩
    · have hnb : ∀ k, (Value.slice A2 q c2).ownBlock = some k → u1.heap.size ≤ k := fun k hk => by
        rcases HN2.out with h | ⟨j, h, hj⟩
        · rw [h] at hk; cases hk
        · rw [h] at hk; injection hk with hk; omega
      rw [HQN.out]
      refine (((HO2.out.rd.lt (by omega)).fr (by omega) HFE.out (fun k hk _ e => ?_)).fr (by omega) HF6.out (fun k hk _ e => ?_)).more fun k hk => ?_
      · have e : k = w.heap.size := e
        have := hnb k hk.1
        omega
      · have e : k = w.heap.size + 1 := e
        have := hnb k hk.1
        omega
      · have := hnb k hk.1
        exact ⟨by omega, by have := hk.2; omega, fun h => by cases h⟩
    · exact (HF1u.out.trans' HFE.out (fun i hi hlt => by have hi : i = w.heap.size := hi; omega)).trans' HF6.out (fun i hi hlt => by have hi : i = w.heap.size + 1 := hi; omega)
end Go.Proofs.YtcpgamidimfflaaGreat
namespace Go.Proofs.YtcpgamidimfflaaGreat
open Go.RowKit Go.My Go.Maps
set_option linter.unusedSimpArgs false
set_option linter.unusedVariables false
attribute [local go_sem ↓] Go.wp_at_zero Go.wp_at_succ
def dds (l : List Dd) : List Value := l.flatMap ddC
theorem dds_append (l m : List Dd) : dds (l ++ m) = dds l ++ dds m := by unfold dds; rw [List.flatMap_append]
theorem dds_one (d : Dd) : dds [d] = ddC d := by simp [dds]
theorem elDd : El Tryz.prog 45 82 9 72 := ⟨Tryz.underlying45, by
  have h : (Tryz.prog.info? 82).map (fun i => (i.zero, i.size, i.bytes)) = some (some (.agg #[.int .i64 0, .int .i64 0, .int .i64 0, .int .i64 0, .int .i64 0, .int .i64 0, .int .i64 0, .int .i64 0, .bool false]), 9, 72) := by kernel_rfl
  obtain ⟨i, hi, hz, hs, hb⟩ := info_parts h
  exact ⟨i, _, hi, hz, hs, hb, rfl⟩, by omega⟩
theorem execD_le (s : Ru) (i : In2) : (s.execD i).length ≤ 1 := by
  unfold Ru.execD
  cases s.get i with
  | none => simp
  | some e =>
    simp only
    split <;> simp
theorem execsD_len : ∀ (l : List In2) (s : Ru), (s.execsD l).length ≤ l.length
  | [], s => Nat.le_refl _
  | a :: l, s => by
    show (s.execD a ++ (s.exec a).execsD l).length ≤ _
    rw [List.length_append, List.length_cons]
    have := execD_le s a
    have := execsD_len l (s.exec a)
    omega
theorem RnM.apart {w : World} {r : Pr} {s : Ru} {v : Value} {n : Nat} {xs : List Value} (h : RnM w r s) (ho : Own w 82 9 v n xs) (hE : ∀ b, v.ownBlock = some b → ¬ r.E b) : ∀ k, r.all k → v.ownBlock ≠ some k := fun k hk e => by
  obtain ⟨cur, hb⟩ := ho.blk k e
  rcases hk with (rfl | rfl | rfl | rfl | hk | hk) | hk
  · exact h.blk.ne_ hb (by decide) rfl
  · exact h.kn.ne_ hb rfl
  · exact h.wt.ne_ hb rfl
  · exact h.td.ne_ hb rfl
  · exact h.bk.bl hb (by decide) (by decide) (by decide) k hk rfl
  · obtain ⟨cur2, hb2⟩ := h.ls.blk k hk
    exact hb2.ne_ hb (by decide) rfl
  · exact hE k e hk
theorem RnM.del {w w' : World} {r : Pr} {s : Ru} (h : RnM w r s) (i : In2) (ht : WtT w' r.wm fun j => !decide (j = i) && s.wt j) (hf : Fr (At1 r.wm) w w') : RnM w' r (s.ex1 i) where
  blk := h.blk.fr hf (fun e => h.new_.1 (show r.wm = r.p from Eq.symm e))
  kn := h.kn.fr hf (fun e => h.ne.1 e) (fun k hk _ e => h.ap k hk (.inr (.inr (.inl e)))) (fun _ h => h)
  wt := ht
  ls := h.ls.fr hf (fun k hk e => h.new_.2 k hk (Eq.symm e)) (fun k hk _ e => h.ap k hk (.inr (.inr (.inl e)))) (fun _ h => h)
  td := h.td.fr hf (fun e => h.ne.2.2.1 (Eq.symm e))
  bk := h.bk.fr hf fun k hk e => (h.ne.2.2.2 k hk).2.1 e
  lt := fun k hk => Nat.lt_of_lt_of_le (h.lt k hk) hf.size
  ap := h.ap
  ne := h.ne
  di := ⟨h.di.rep, h.di.bk, h.di.ids, h.di.dok⟩
theorem WtT.del {w : World} {m : Nat} {wt : In2 → Bool} (h : WtT w m wt) (i : In2) (hi : IdOk i) (ty : TypeId) : ∃ w', (Builtin.delete_ #[89, 30] ty #[.map (some m), .agg #[.int .i64 i.1, .int .i64 i.2]]).run Tryz.prog w = .ok (.tuple #[]) w' ∧ WtT w' m (fun j => !decide (j = i) && wt j) ∧ Fr (At1 m) w w' := by
  obtain ⟨L, h⟩ := h
  obtain ⟨w', h1, h2, h3⟩ := h.drop keyIn Tryz.underlying89 i hi ty
  rw [wtF_del] at h2
  exact ⟨w', h1, ⟨_, h2⟩, h3⟩
theorem exec_any (w : World) (r : Pr) (s : Ru) (i : In2) (o : Od) (A : Option Addr) (c : Nat) (h : RnM w r s) (ho : o.ok) (hr : rightO o = true) (hv : LgS w r.E (.slice A o.legs.length c) o.legs) :
    Calls Tryz.prog 55 #[.pointer (some ⟨r.p, 0, none⟩), .agg #[.int .i64 i.1, .int .i64 i.2], o.val (.slice A o.legs.length c)] w fun e w' => e = .returned (.agg (ddC (s.exD i o)).toArray) ∧ ExcM r w (s.exO o) w' := by
  cases hx : lookT s.did s.tr o.id with
  | some x =>
    rw [(Ru.exD_some (i := i) hx).1, (Ru.exD_some (i := i) hx).2]
    refine (exec_again w r s i o A _ c x h (id_ok ho) hx).mono fun e w' hw => ⟨hw.1, r.lv, ?_, hw.2.mono fun _ _ h => False.elim h, .inl rfl⟩
    exact h.no hw.2
  | none =>
    rw [(Ru.exD_none (i := i) hx).1, (Ru.exD_none (i := i) hx).2]
    exact exec_new w r s i o A c h ho hv.okl hr hv hx
end Go.Proofs.YtcpgamidimfflaaGreat
