/- FoataMore: the walk. -/
import Derived.Test.YtnphncemghfkbaaGreatFoR
namespace Go.Proofs.YtnphncemghfkbaaGreat
open Go.RowKit Go.My Go.Maps Go.WideMaps
set_option linter.unusedSimpArgs false
set_option linter.unusedVariables false
attribute [local go_sem ↓] Go.wp_at_zero Go.wp_at_succ

/-- the first rows' clashes are told by n -/
def WnO (w : World) (S : List (List Od)) (o : Od) (top : Nat) (nv iv : Value) (wr : World) : Prop := ∃ i n : Nat, i ≤ S.length ∧ iv = .int .i64 i ∧ nv = .int .i64 n ∧ n ≤ i ∧ n ≤ top ∧ (∀ j (hj : j < S.length), j < i → (∃ x ∈ S[j], clashB x o = true) → j + 1 ≤ n) ∧ Fr No w wr
def WnI (w : World) (S : List (List Od)) (o : Od) (top i : Nat) (row : List Od) (nv kv : Value) (wr : World) : Prop := ∃ k n : Nat, k ≤ row.length ∧ kv = .int .i64 k ∧ nv = .int .i64 n ∧ n ≤ i + 1 ∧ n ≤ top ∧ (∀ j (hj : j < S.length), j < i → (∃ x ∈ S[j], clashB x o = true) → j + 1 ≤ n) ∧ ((∃ x ∈ row.take k, clashB x o = true) → i + 1 ≤ n) ∧ Fr No w wr
theorem ne_id (a b c d : Int) (W : World) (h : ¬ (a = c ∧ b = d)) : (binOp .neq 44 (.agg #[.int .i64 a, .int .i64 b]) (.agg #[.int .i64 c, .int .i64 d])).run Tryz.prog W = .ok (.bool true) W := by
  simp [go_sem]
  intro h1 h2
  exact h ⟨h1, h2⟩
theorem OwnO.no11 {w0 w w' : World} {v : Value} {l : List Od} (h : OwnO w0 w v l) (hf : Fr No w w') : OwnO w0 w' v l := by
  obtain ⟨cells, ho, hE⟩ := h
  exact ⟨cells, ho.fr hf (fun _ _ h => h), hE⟩
def idNe (o x : Od) : Bool := decide (x.id ≠ o.id)
def RsO (w w0 : World) (row : List Od) (o : Od) (sv kv : Value) (wr : World) : Prop := ∃ k : Nat, k ≤ row.length ∧ kv = .int .i64 k ∧ OwnO w wr sv ((row.take k).filter (idNe o)) ∧ Fr No w wr ∧ Newer w.heap.size none sv.ownBlock
theorem filter_take (row : List Od) (o : Od) (k : Nat) (hk : k < row.length) : (row.take (k + 1)).filter (idNe o) = if idNe o row[k] then (row.take k).filter (idNe o) ++ [row[k]] else (row.take k).filter (idNe o) := by
  rw [List.take_succ_eq_append_getElem hk, List.filter_append, List.filter_cons, List.filter_nil]
  split <;> simp
theorem more_some {a : List Od} {n : Nat} (hn : n + 1 = a.length) (hr : Rt Od.id a) {S T : List (List Od)} (h : StepsO (a.take n) S) (k : StepsO a T) :
    ∃ top, T.length = max S.length (top + 1) ∧ (∀ i (hi : i < T.length), ((T[i].filter (idNe (a[n]'(by omega)))).length < T[i].length ↔ i = top)) ∧ (∀ i (hi : i < T.length) (hj : i < S.length), T[i].filter (idNe (a[n]'(by omega))) = S[i]) ∧
      (∀ i (hi : i < S.length), ∀ x ∈ S[i], clashB x (a[n]'(by omega)) = true → i + 1 ≤ top) ∧ (top = 0 ∨ ∃ (hi : top - 1 < S.length), ∃ x ∈ S[top - 1], clashB x (a[n]'(by omega)) = true) := by
  have hna : n < a.length := by omega
  have e : a = a.take n ++ [a[n]] := by
    have := List.take_succ_eq_append_getElem hna
    rw [hn, List.take_length] at this
    exact this
  have k2 : StepsO (a.take n ++ [a[n]]) T := by rw [← e]; exact k
  have hr2 : Rt Od.id (a.take n ++ [a[n]]) := by rw [← e]; exact hr
  refine ⟨topOf clashB a[n] (lev clashB (a.take n)), h.more_len k2, fun i hi => ?_, fun i hi hj => ?_, (StepsR.more_top (o := a[n]) h).1, (StepsR.more_top (o := a[n]) h).2⟩
  · rw [← k2.more_in hr2.nodup hi]
    constructor
    · intro hl
      apply Classical.byContradiction
      intro hno
      have : T[i].filter (idNe a[n]) = T[i] := List.filter_eq_self.2 fun x hx => by
        unfold idNe
        rw [decide_eq_true_eq]
        intro e3
        have hxa : x ∈ a.take n ++ [a[n]] := (k2.mem hr2.nodup x).1 (List.mem_flatten.2 ⟨_, List.getElem_mem hi, hx⟩)
        have := hr2.inj hxa (List.mem_append_right _ List.mem_cons_self) e3
        rw [this] at hx
        exact hno hx
      rw [this] at hl
      omega
    · intro hm
      have h1 : (T[i].filter (idNe a[n])).length ≤ T[i].length := List.length_filter_le _ _
      have h2 : (T[i].filter (idNe a[n])).length ≠ T[i].length := fun e3 => by
        have := List.filter_eq_self.1 ((List.filter_sublist).eq_of_length e3) a[n] hm
        unfold idNe at this
        simp at this
      omega
  · exact StepsR.more_row ltI_irr ltI_trans hr2 h k2 hi hj
set_option maxRecDepth 100000 in
set_option maxHeartbeats 4000000 in
theorem foataMore_walk (A : Option Addr) (c : Nat) (la : List Od) (w : World) (ra : OdsS w w (Lt w.heap.size) A la) (ca : la.length ≤ c) (ma : c ≤ maxLen) :
    Calls Tryz.prog 8 #[.slice A la.length c] w fun e w' => e = .returned (.bool true) ∧ Below w.heap.size w w' := by
  have HLV : Hid (∀ W, _) := fun W => lives11 W
  have HA : Hid (∀ W, Fr No w W → _) := fun W hW => few_own11 w W A c 50 la ra ca ma (by omega) hW
  have HRA := Lib.hid (lawL_rt la 50)
  have hal := lawL_len la 50
  clear ra ca ma
  generalize hga : lawL la 50 = a at *
  clear hga
  generalize la.length = na at *
  have hST : ∀ W A c k, k ≤ a.length → Ls W Tr A c a → Calls Tryz.prog 14 #[.slice A k c] W fun e w' => ∃ A' c' S, e = .returned (.slice A' (S : List (List Od)).length c') ∧ StS w' A' S ∧ Fr No W w' ∧ StepsO (a.take k) S := fun W A c k hk h => by
    obtain ⟨h1, h2⟩ := h.take11 hk
    have h3 := steps_any W Tr A c (a.take k) h1 (by omega)
    rw [h2] at h3
    refine h3.mono ?_
    rintro e w' ⟨A', c', S, e1, _, e2, e3, e4, _⟩
    refine ⟨A', c', S, e1, e2, e3, e4 ((rightL_iff _).2 ?_)⟩
    have hr := HRA.out
    unfold Rt at hr ⊢
    rw [List.map_take]
    exact hr.sublist (List.take_sublist _ _)
  have HS2 : Hid (∀ W A c, Ls W Tr A c a → _) := fun W A c h => hST W A c a.length (Nat.le_refl _) h
  by_cases hzero : a.length = 0
  · have ha : a = [] := List.length_eq_zero_iff.1 hzero
    have HNS : Hid (∀ S, StepsO (a.take a.length) S → S = []) := fun S h => by
      rw [List.take_length, ha] at h
      exact steps_nil_eq h
    rw [hzero] at HS2 HNS
    clear hST ha
    go_enter Tryz.func8, Tryz.ntmps8
    go_wp2_with fail
    (with_reducible refine (HLV.out _).mono ?_)
    rintro e w1 ⟨rfl, hf1⟩
    go_wp2_with fail
    refine (HA.out _ hf1).mono ?_
    rintro e w2 ⟨A2, c2, m2, rfl, hf2, HA2⟩
    go_wp2_with fail
    (with_reducible refine (HA2 _ (Fr.refl _ _)).mono ?_)
    rintro e w3 ⟨A3, c3, rfl, hl3, hf3, -⟩
    clear HA2
    have HF3 := Lib.hid ((hf1.trans hf2).trans hf3)
    have HL3 := Lib.hid hl3
    clear hf1 hf2 hf3 hl3 HA HLV
    rw [hzero]
    go_wp2_with fail
    (with_reducible refine (HS2.out _ _ _ HL3.out).mono ?_)
    rintro e w4 ⟨A4, c4, S, rfl, hs4, hf4, hS⟩
    have := HNS.out S hS
    subst this
    go_wp2
    go_ret
    exact ⟨rfl, (HF3.out.trans hf4).belowNo⟩
  · obtain ⟨n, hn⟩ : ∃ n, n + 1 = a.length := ⟨a.length - 1, by omega⟩
    have hna : n < a.length := by omega
    have hni : (a.length : Int) - 1 = (n : Int) := by omega
    have HS1 : Hid (∀ W A c, Ls W Tr A c a → _) := fun W A c h => hST W A c n (by omega) h
    have HMS : Hid (∀ S T, StepsO (a.take n) S → StepsO (a.take a.length) T → _) := fun S T h1 h2 => more_some hn HRA.out h1 (by rw [List.take_length] at h2; exact h2)
    have HTL : Hid (∀ k S, StepsO (a.take k) S → S.length ≤ 50 ∧ (flatS S).length ≤ 50) := fun k S h => by
      have h1 := stepsLen h
      have hr : Rt Od.id (a.take k) := by
        have hr := HRA.out
        unfold Rt at hr ⊢
        rw [List.map_take]
        exact hr.sublist (List.take_sublist _ _)
      have h2 := (ak_flat hr h).1
      rw [List.length_take] at h1 h2
      omega
    have HCL : Hid (∀ (w1 : World) (F G : Nat → Prop) (x y : Od) (v u : Value), LgS w1 F v x.legs → LgS w1 G u y.legs → x.legs.length ≤ 100000 → y.legs.length ≤ 100000 → ∀ W, Fr No w1 W → Calls Tryz.prog 26 #[x.val v, y.val u] W fun e w' => e = .returned (.bool (clashB x y)) ∧ Fr No W w') := fun w1 F G x y v u h1 h2 h3 h4 W hW => clash_any F G x y v u W (h1.no hW) (h2.no hW) h3 h4
    have HSM : Hid (∀ W A c B d (l : List Od), Ls W Tr A c l → Ls W Tr B d l → Calls Tryz.prog 18 #[.slice A l.length c, .slice B l.length d] W fun e w' => e = .returned (.bool true) ∧ Fr No W w') := fun W A c B d l h1 h2 => same10_eq W Tr Tr A B c d l h1 h2
    have hne0 : ((a.length : Int) == 0) = false := beq_eq_false_iff_ne.2 (by omega)
    have hne1 : (a.length == 0) = false := beq_eq_false_iff_ne.2 hzero
    clear hST
    go_enter Tryz.func8, Tryz.ntmps8
    go_wp2_with fail
    (with_reducible refine (HLV.out _).mono ?_)
    rintro e w1 ⟨rfl, hf1⟩
    go_wp2_with fail
    refine (HA.out _ hf1).mono ?_
    rintro e w2 ⟨A2, c2, m2, rfl, hf2, HA2⟩
    go_wp2_with fail
    (with_reducible refine (HA2 _ (Fr.refl _ _)).mono ?_)
    rintro e w3 ⟨A3, c3, rfl, hl3, hf3, -⟩
    clear HA2
    have HF3 := Lib.hid ((hf1.trans hf2).trans hf3)
    obtain ⟨ad, vl, rfl, _, hok, hog, hLg, q0, q1, q2, q3, q4, q5, q6, q7, q8, q9⟩ := hl3.ods.at_ n hna
    obtain ⟨Bo, do_, rfl, hdo, hdo'⟩ := hLg.form
    have HL3 := Lib.hid hl3
    have hc3 : (n : Int) ≤ (c3 : Int) := by have := hl3.c; omega
    have HLO := Lib.hid hLg
    have HOS := Lib.hid (hl3.s _ (List.getElem_mem hna))
    have HOK : Hid (a[n].ok ∧ ∀ g ∈ a[n].legs, g.ok) := ⟨hok, hog⟩
    clear hf1 hf2 hf3 hl3 HA HLV hLg hok hog
    generalize hao : a[n] = o at *
    have HX3 : Hid (Fr No w3 (w3.alloc (.cells #[.int .i64 o.cl, .int .i64 o.sq, .int .i64 o.kd, .string o.acct, .string o.peer, .int .i64 o.sum, .slice Bo o.legs.length do_, .int .i64 o.per, .int .i64 o.hold, .string o.note] 47))) := (Fr.refl _ _).alloc _
    have HB3 : Hid (Blk (w3.alloc (.cells #[.int .i64 o.cl, .int .i64 o.sq, .int .i64 o.kd, .string o.acct, .string o.peer, .int .i64 o.sum, .slice Bo o.legs.length do_, .int .i64 o.per, .int .i64 o.hold, .string o.note] 47)) w3.heap.size 47 #[.int .i64 o.cl, .int .i64 o.sq, .int .i64 o.kd, .string o.acct, .string o.peer, .int .i64 o.sum, .slice Bo o.legs.length do_, .int .i64 o.per, .int .i64 o.hold, .string o.note]) := Blk.new _ _ _
    have HC1 := Lib.hid (HS1.out _ _ _ (HL3.out.no HX3.out))
    go_wp2_with fail
    (with_reducible refine HC1.out.mono ?_)
    rintro e w4 ⟨A4, c4, S, rfl, hs4, hf4, hS⟩
    have HX4 := Lib.hid (HX3.out.trans hf4)
    have HB4 := Lib.hid (HB3.out.fr hf4 (fun h => h))
    have HS4 := Lib.hid hs4
    clear hs4 hf4 q0 q1 q2 q3 q4 q5 q6 q7 q8 q9 HC1
    have HC2 := Lib.hid (HS2.out _ _ _ (HL3.out.no HX4.out))
    go_wp2_with fail
    (with_reducible refine HC2.out.mono ?_)
    rintro e w5 ⟨A5, c5, T, rfl, ht5, hf5, hT⟩
    have HS5 := Lib.hid (HS4.out.no hf5)
    have HT5 := Lib.hid ht5
    have HB5 := Lib.hid (HB4.out.fr hf5 (fun h => h))
    have HF5 := Lib.hid ((HF3.out.trans HX4.out).trans hf5)
    have HLO5 := Lib.hid (HLO.out.no (HX4.out.trans hf5))
    obtain ⟨top, hm1, hm2, hm3, hm4, hm5⟩ := HMS.out S T hS hT
    simp only [hao] at hm2 hm3 hm4 hm5
    have HM2 := Lib.hid hm2
    have HM3 := Lib.hid hm3
    have HM4 := Lib.hid hm4
    have HM5 := Lib.hid hm5
    obtain ⟨hsl, hfs⟩ := HTL.out n S hS
    obtain ⟨htl, hft⟩ := HTL.out _ T hT
    have HFS : Hid ((flatS S).length ≤ 50) := hfs
    have HFT : Hid ((flatS T).length ≤ 50) := hft
    have htp : top ≤ 50 := by omega
    clear hf5 ht5 hS hT hm2 hm3 hm4 hm5 hfs hft HS4 HB4 HB3 HX3 HX4 HC2 HS1 HS2 HMS HTL HL3 HF3 HLO
    generalize w3.heap.size = g at *
    go_wp2
    go_loopw [6, 7] (fun nv iv wr => WnO w5 S o top nv iv wr) (fun _ iv _ => S.length - (intOf iv).toNat)
    case atStart => exact ⟨0, 0, Nat.zero_le _, rfl, rfl, Nat.le_refl _, Nat.zero_le _, fun j hj h => absurd h (Nat.not_lt_zero _), Fr.refl _ _⟩
    case round =>
      obtain ⟨i, m, hi, rfl, rfl, hmi, hmt, hmc, hfr⟩ := hrel
      have hi62 : (i : Int) ≤ 50 := by omega
      by_cases hlt : i < S.length
      · have hrl : S[i].length ≤ 50 := by
          have := len_mem (List.getElem_mem hlt)
          have := HFS.out
          omega
        have HFO := Lib.hid hfr
        have HMC := Lib.hid hmc
        have hii : (i : Int) < (S.length : Int) := by omega
        clear hfr hmc
        generalize wr = wo at *
        go_wp2
        go_loopw [6, 8] (fun nv kv wr => WnI w5 S o top i S[i] nv kv wr) (fun _ kv _ => S[i].length - (intOf kv).toNat)
        case atStart => exact ⟨0, m, Nat.zero_le _, rfl, rfl, by omega, hmt, HMC.out, fun ⟨x, hx, _⟩ => (by cases hx), HFO.out⟩
        case round =>
          obtain ⟨k, m2, hk, rfl, rfl, hm1', hm2', hm3', hm4', hfr⟩ := hrel
          have hk62 : (k : Int) ≤ 50 := by omega
          obtain ⟨sd, Ar, cr, rfl, z0, hrow⟩ := (HS5.out.no hfr).at_ i hlt
          by_cases hkl : k < S[i].length
          · obtain ⟨od, v, rfl, _, _, _, hLk, q0, q1, q2, q3, q4, q5, q6, q7, q8, q9⟩ := hrow.ods.at_ k hkl
            obtain ⟨B, d, rfl, hd1, hd2⟩ := hLk.form
            have HC := Lib.hid (HCL.out wr _ _ _ _ _ _ hLk (HLO5.out.no hfr) (hrow.s _ (List.getElem_mem hkl)) HOS.out)
            have hb5 := HB5.out.fr hfr (fun h => h)
            have b0 := hb5.cell 0
            have b1 := hb5.cell 1
            have b2 := hb5.cell 2
            have b3 := hb5.cell 3
            have b4 := hb5.cell 4
            have b5 := hb5.cell 5
            have b6 := hb5.cell 6
            have b7 := hb5.cell 7
            have b8 := hb5.cell 8
            have b9 := hb5.cell 9
            simp only [List.getElem?_toArray, List.getElem?_cons_zero, List.getElem?_cons_succ] at b0 b1 b2 b3 b4 b5 b6 b7 b8 b9
            clear hb5
            have HNX : Hid (∀ W, Fr No wr W → (clashB S[i][k] o = false → WnI w5 S o top i S[i] (.int .i64 m2) (.int .i64 ((k + 1 : Nat) : Int)) W) ∧ (clashB S[i][k] o = true → WnI w5 S o top i S[i] (.int .i64 i) (.int .i64 ((k + 1 : Nat) : Int)) W ∨ True)) := fun W hW => by
              refine ⟨fun hc => ⟨k + 1, m2, hkl, rfl, rfl, hm1', hm2', hm3', fun ⟨x, hx, hxc⟩ => ?_, hfr.trans hW⟩, fun _ => .inr trivial⟩
              rw [List.take_succ_eq_append_getElem hkl, List.mem_append, List.mem_singleton] at hx
              rcases hx with hx | hx
              · exact hm4' ⟨x, hx, hxc⟩
              · rw [hx, hc] at hxc; cases hxc
            have HNY : Hid (∀ W, Fr No wr W → clashB S[i][k] o = true → WnI w5 S o top i S[i] (.int .i64 ((i + 1 : Nat) : Int)) (.int .i64 ((k + 1 : Nat) : Int)) W) := fun W hW hc => by
              refine ⟨k + 1, i + 1, hkl, rfl, rfl, Nat.le_refl _, HM4.out i hlt _ (List.getElem_mem hkl) hc, fun j hj hji _ => by omega, fun _ => Nat.le_refl _, hfr.trans hW⟩
            have hne : Nonempty (WIn (Fr No wr)) := ⟨⟨_, Fr.refl _ _⟩⟩
            have hki : (k : Int) < (S[i].length : Int) := by omega
            unfold Od.val Od.cs at HC
            simp only [List.toArray] at HC
            clear hLk hrow hfr hm3' hm4' hm1' hm2'
            generalize hg1 : S[i][k] = ok at *
            generalize hg2 : clashB ok o = r at *
            clear hg1 hg2
            obtain ⟨clk, sqk, kdk, acctk, peerk, sumk, lgk, perk, holdk, notek⟩ := ok
            simp only at *
            have Z0 := fun x : WIn (Fr No wr) => x.h.cell_some z0 (fun h => h)
            have Q0 := fun x : WIn (Fr No wr) => x.h.cell_some q0 (fun h => h)
            have Q1 := fun x : WIn (Fr No wr) => x.h.cell_some q1 (fun h => h)
            have Q2 := fun x : WIn (Fr No wr) => x.h.cell_some q2 (fun h => h)
            have Q3 := fun x : WIn (Fr No wr) => x.h.cell_some q3 (fun h => h)
            have Q4 := fun x : WIn (Fr No wr) => x.h.cell_some q4 (fun h => h)
            have Q5 := fun x : WIn (Fr No wr) => x.h.cell_some q5 (fun h => h)
            have Q6 := fun x : WIn (Fr No wr) => x.h.cell_some q6 (fun h => h)
            have Q7 := fun x : WIn (Fr No wr) => x.h.cell_some q7 (fun h => h)
            have Q8 := fun x : WIn (Fr No wr) => x.h.cell_some q8 (fun h => h)
            have Q9 := fun x : WIn (Fr No wr) => x.h.cell_some q9 (fun h => h)
            have B0 := fun x : WIn (Fr No wr) => x.h.cell_some b0 (fun h => h)
            have B1 := fun x : WIn (Fr No wr) => x.h.cell_some b1 (fun h => h)
            have B2 := fun x : WIn (Fr No wr) => x.h.cell_some b2 (fun h => h)
            have B3 := fun x : WIn (Fr No wr) => x.h.cell_some b3 (fun h => h)
            have B4 := fun x : WIn (Fr No wr) => x.h.cell_some b4 (fun h => h)
            have B5 := fun x : WIn (Fr No wr) => x.h.cell_some b5 (fun h => h)
            have B6 := fun x : WIn (Fr No wr) => x.h.cell_some b6 (fun h => h)
            have B7 := fun x : WIn (Fr No wr) => x.h.cell_some b7 (fun h => h)
            have B8 := fun x : WIn (Fr No wr) => x.h.cell_some b8 (fun h => h)
            have B9 := fun x : WIn (Fr No wr) => x.h.cell_some b9 (fun h => h)
            go_upto_region 15 with (fail)
            clear z0 q0 q1 q2 q3 q4 q5 q6 q7 q8 q9 b0 b1 b2 b3 b4 b5 b6 b7 b8 b9
            cases r
            · refine wp_region_in (D := Fr No wr) (by kernel_rfl) (by kernel_rfl) (Fr.refl _ _).drew ?_
              repeat (go_big_quiet_step ((first | (go_at_call 26; refine Calls.in_of (v := .bool false) _ fun W hW => ?_; (with_reducible refine (HC.out W hW).mono ?_); exact fun _ _ h => ⟨h.1, Fr.trans hW h.2⟩))))
              refine wpQuiet_nil ?_
              rintro wq ⟨⟨w0, hq⟩, hw0⟩
              obtain rfl : wq = w0 := hw0
              have HRL := Lib.hid ((HNX.out wq hq).1 rfl)
              go_wp2
              go_roundw
              case rel =>
                obtain ⟨k', m', h1, h2, h3⟩ := HRL.out
                exact ⟨k', m', h1, by rw [← h2]; go_num, h3⟩
              case measure => simp [intOf]; omega
            · refine wp_region_in (D := Fr No wr) (by kernel_rfl) (by kernel_rfl) (Fr.refl _ _).drew ?_
              repeat (go_big_quiet_step ((first | (go_at_call 26; refine Calls.in_of (v := .bool true) _ fun W hW => ?_; (with_reducible refine (HC.out W hW).mono ?_); exact fun _ _ h => ⟨h.1, Fr.trans hW h.2⟩))))
              refine wpQuiet_nil ?_
              rintro wq ⟨⟨w0, hq⟩, hw0⟩
              obtain rfl : wq = w0 := hw0
              have HRL := Lib.hid (HNY.out wq hq rfl)
              go_wp2
              go_roundw
              case rel =>
                obtain ⟨k', m', h1, h2, h3, h4⟩ := HRL.out
                exact ⟨k', m', h1, by rw [← h2]; go_num, by rw [← h3]; go_num, h4⟩
              case measure => simp [intOf]; omega
          · obtain rfl : k = S[i].length := by omega
            rw [List.take_length] at hm4'
            have HRL : Hid (WnO w5 S o top (.int .i64 m2) (.int .i64 ((i + 1 : Nat) : Int)) wr) := by
              refine ⟨i + 1, m2, hlt, rfl, rfl, hm1', hm2', fun j hj hji hx => ?_, hfr⟩
              by_cases hj2 : j < i
              · exact hm3' j hj hj2 hx
              · obtain rfl : j = i := by omega
                exact hm4' hx
            clear hrow hfr hm3' hm4'
            go_wp2
            go_roundw
            case rel =>
              obtain ⟨i', m', h1, h2, h3⟩ := HRL.out
              exact ⟨i', m', h1, by rw [← h2]; go_num, h3⟩
            case measure => simp [intOf]; omega
      · obtain rfl : i = S.length := by omega
        obtain rfl : m = top := by
          rcases HM5.out with h | ⟨h1, x, hx, hc⟩
          · omega
          · have := hmc (top - 1) h1 (by omega) ⟨x, hx, hc⟩
            omega
        have HFR := Lib.hid hfr
        have e1 : (if (S.length : Int) < (m : Int) + 1 then (m : Int) + 1 else (S.length : Int)) = (T.length : Int) := by split <;> omega
        have e2 : max (S.length : Int) ((m : Int) + 1) = (T.length : Int) := by omega
        clear hfr hmc hmi hmt
        go_wp2
        go_loopw [9] (fun iv wr => PrRel11 w5 T.length iv wr) (fun iv _ => T.length - (intOf iv).toNat)
        case atStart => exact ⟨0, Nat.zero_le _, rfl, HFR.out⟩
        case round =>
          obtain ⟨i, hi, rfl, hfr⟩ := hrel
          have hi62 : (i : Int) ≤ 50 := by omega
          by_cases hlt : i < T.length
          · obtain ⟨td, Ar, cr, hA5, z5, hrow5⟩ := HT5.out.at_ i hlt
            subst hA5
            have hrl : T[i].length ≤ 50 := by
              have := len_mem (List.getElem_mem hlt)
              have := HFT.out
              omega
            have HROW := Lib.hid hrow5
            have HZ5 := Lib.hid z5
            have HFO := Lib.hid hfr
            have hii : (i : Int) < (T.length : Int) := by omega
            clear hfr hrow5 z5
            generalize wr = wo at *
            go_wp2
            go_loopw [10, 11] (fun sv kv wr => RsO w5 wo T[i] o sv kv wr) (fun _ kv _ => T[i].length - (intOf kv).toNat)
            case atStart => exact ⟨0, Nat.zero_le _, rfl, OwnO.nil _ _, HFO.out, .inl rfl⟩
            case round =>
              obtain ⟨k, hk, rfl, hown, hfr, hnew⟩ := hrel
              have hk62 : (k : Int) ≤ 50 := by omega
              have z0 := hfr.cell_some HZ5.out (fun h => h)
              by_cases hkl : k < T[i].length
              · obtain ⟨od, v, rfl, _, hok, hog, hLk, q0, q1, q2, q3, q4, q5, q6, q7, q8, q9⟩ := (HROW.out.ods.fr hfr (fun _ _ _ h => h)).at_ k hkl
                obtain ⟨B, d, rfl, hd1, hd2⟩ := hLk.form
                have HOR : Hid (OdR w5 (T[i][k].cs (.slice B T[i][k].legs.length d)) T[i][k]) := ⟨_, rfl, hok, hog, hLk⟩
                have HFT2 := Lib.hid (filter_take T[i] o k hkl)
                have hfl : ((T[i].take k).filter (idNe o)).length ≤ 50 := by
                  have h1 := List.length_filter_le (idNe o) (T[i].take k)
                  rw [List.length_take] at h1
                  omega
                have hb5 := HB5.out.fr hfr (fun h => h)
                have b0 := hb5.cell 0
                have b1 := hb5.cell 1
                simp only [List.getElem?_toArray, List.getElem?_cons_zero, List.getElem?_cons_succ] at b0 b1
                have HIN : Hid (idNe o T[i][k] = decide ((T[i][k].cl, T[i][k].sq) ≠ (o.cl, o.sq))) := rfl
                have HFR := Lib.hid hfr
                have HNW := Lib.hid hnew
                have HOWN := Lib.hid hown
                have hkli : (k : Int) < (T[i].length : Int) := by omega
                have HKL : Hid (k + 1 ≤ T[i].length) := hkl
                clear hok hog hLk hfr hnew hown hb5
                generalize hfv : (T[i].take k).filter (idNe o) = fl at *
                generalize hgk : T[i][k] = ok at *
                clear hfv hgk
                obtain ⟨cl, sq, kd, acct, peer, sum, lg, per, hold, note⟩ := ok
                simp only at *
                by_cases he : cl = o.cl ∧ sq = o.sq
                · obtain ⟨he1, he2⟩ := he
                  have HST : Hid ((T[i].take (k + 1)).filter (idNe o) = fl) := by
                    show _ = _
                    rw [HFT2.out, if_neg]
                    rw [HIN.out, he1, he2]
                    simp
                  clear HFT2 HIN
                  generalize o.cl = ocl at *
                  generalize o.sq = osq at *
                  subst he1 he2
                  go_upto_region 26 with (fail)
                  clear q2 q3 q4 q5 q6 q7 q8 q9
                  go_quiet (fail)
                  go_wp2
                  go_roundw
                  case rel => exact ⟨k + 1, HKL.out, by go_num, by rw [HST.out]; exact HOWN.out.no11 ((Fr.refl _ _).drewN _), HFR.out.drewN _, HNW.out⟩
                  case measure => have := HKL.out; simp [intOf]; omega
                · have hne := fun W => ne_id cl sq o.cl o.sq W he
                  have HST : Hid ((T[i].take (k + 1)).filter (idNe o) = fl ++ [⟨cl, sq, kd, acct, peer, sum, lg, per, hold, note⟩]) := by
                    show _ = _
                    rw [HFT2.out, if_pos]
                    rw [HIN.out, decide_eq_true_eq]
                    intro e9
                    injection e9 with e8 e9
                    exact he ⟨e8, e9⟩
                  clear HFT2 HIN he
                  obtain ⟨cells, ho, hE⟩ := HOWN.out
                  have HOO := Lib.hid ho
                  have HEE := Lib.hid hE
                  have HBX : Hid (fl.length + 1 ≤ maxLen ∧ (fl.length + 1) * 120 ≤ 140737488355328) := by
                    refine ⟨?_, ?_⟩ <;> (try simp only [maxLen]) <;> omega
                  clear ho hE
                  go_upto_region 26 with (fail)
                  go_quiet (fail)
                  go_wp2_with (first | (at_builtin; refine wpList_app _ rfl (.tmp 98) (.tmp 106) 22 22 rfl elO ((HOO.out.drewN _).alloc _) rfl (Src.of_new (cs := #[.int .i64 cl, .int .i64 sq, .int .i64 kd, .string acct, .string peer, .int .i64 sum, .slice B lg.length d, .int .i64 per, .int .i64 hold, .string note]) (t := 47) (World.drewN wr _).heap.size (heap_alloc_new _ _) Tryz.underlying22 rfl (by simp [Value.oneCell'])) rfl HBX.out.1 HBX.out.2 ?_; intro v7 w7 ho7 hf7 hn7; have HO7 := Lib.hid ho7; have HF7 := Lib.hid hf7; have HN7 := Lib.hid hn7; clear ho7 hf7 hn7) | fail)
                  go_roundw
                  case rel =>
                    refine ⟨k + 1, HKL.out, by go_num, ?_, fr_no ((HFR.out.drewN _).alloc _) HNW.out HF7.out, HNW.out.trans (Newer.of HN7.out) ?_⟩
                    · rw [HST.out]
                      exact ⟨_, by rw [List.length_append]; exact HO7.out, Each.snocO HEE.out rfl HOR.out⟩
                    · have := HFR.out.size
                      rw [World.size_alloc]
                      show _ ≤ wr.heap.size + 1
                      omega
                  case measure => have := HKL.out; simp [intOf]; omega
              · obtain rfl : k = T[i].length := by omega
                rw [List.take_length] at hown
                have HFK := Lib.hid hfr
                have hRl : (T[i].filter (idNe o)).length ≤ 50 := by
                  have h1 := List.length_filter_le (idNe o) T[i]
                  omega
                obtain ⟨Rv, cR, rfl, hcR, hcR'⟩ := hown.form
                have HLR : Hid (Ls wr Tr Rv cR (T[i].filter (idNe o))) := ⟨(hown.ods.up hfr).more fun _ _ => trivial, by omega, hcR, fun x hx => HROW.out.s x (List.mem_filter.1 hx).1⟩
                clear hown hfr hnew
                obtain ⟨R, hRe⟩ : ∃ R, R = T[i].filter (idNe o) := ⟨_, rfl⟩
                have HRE := Lib.hid hRe
                rw [← hRe] at HLR hRl hcR ⊢
                have HM2' : Hid (R.length < T[i].length ↔ i = m) := by
                  have := HM2.out i hlt
                  rw [← HRE.out] at this
                  exact this
                clear hRe
                by_cases him : i = m
                · by_cases hls : i < S.length
                  · have hr1 : ((R.length : Nat) : Int) < (T[i].length : Int) := by have := HM2'.out.2 him; omega
                    subst him
                    have hsi : (i : Int) < (S.length : Int) := by omega
                    obtain ⟨sd, As, cs, rfl, zs, hrs⟩ := (HS5.out.no HFK.out).at_ i hls
                    have hre : S[i] = R := (HM3.out i hlt hls).symm.trans HRE.out.symm
                    rw [hre] at zs hrs
                    have HSS := Lib.hid (HSM.out wr Rv cR As cs R HLR.out (hrs.more fun _ _ => trivial))
                    clear hrs hre
                    go_wp2_with fail
                    (with_reducible refine HSS.out.mono ?_)
                    rintro e w8 ⟨rfl, hf8⟩
                    go_wp2
                    go_roundw
                    case rel => exact ⟨i + 1, hlt, by go_num, HFK.out.trans hf8⟩
                    case measure => simp [intOf]; omega
                  · have hr1 : ((R.length : Nat) : Int) < (T[i].length : Int) := by have := HM2'.out.2 him; omega
                    subst him
                    have hsi : ¬ (i : Int) < (S.length : Int) := by omega
                    go_wp2
                    go_roundw
                    case rel => exact ⟨i + 1, hlt, by go_num, HFK.out⟩
                    case measure => simp [intOf]; omega
                · by_cases hls : i < S.length
                  · have hr1 : ¬ ((R.length : Nat) : Int) < (T[i].length : Int) := fun h => him (HM2'.out.1 (by omega))
                    have hr2 : ((i : Int) == (m : Int)) = false := beq_eq_false_iff_ne.2 (by omega)
                    have hr3 : (i == m) = false := beq_eq_false_iff_ne.2 him
                    have hr4 : ¬ ((i : Int) = (m : Int)) := by omega
                    have hsi : (i : Int) < (S.length : Int) := by omega
                    obtain ⟨sd, As, cs, rfl, zs, hrs⟩ := (HS5.out.no HFK.out).at_ i hls
                    have hre : S[i] = R := (HM3.out i hlt hls).symm.trans HRE.out.symm
                    rw [hre] at zs hrs
                    have HSS := Lib.hid (HSM.out wr Rv cR As cs R HLR.out (hrs.more fun _ _ => trivial))
                    clear hrs hre
                    go_wp2_with fail
                    (with_reducible refine HSS.out.mono ?_)
                    rintro e w8 ⟨rfl, hf8⟩
                    go_wp2
                    go_roundw
                    case rel => exact ⟨i + 1, hlt, by go_num, HFK.out.trans hf8⟩
                    case measure => simp [intOf]; omega
                  · have hr1 : ¬ ((R.length : Nat) : Int) < (T[i].length : Int) := fun h => him (HM2'.out.1 (by omega))
                    have hr2 : ((i : Int) == (m : Int)) = false := beq_eq_false_iff_ne.2 (by omega)
                    have hr3 : (i == m) = false := beq_eq_false_iff_ne.2 him
                    have hr4 : ¬ ((i : Int) = (m : Int)) := by omega
                    have hsi : ¬ (i : Int) < (S.length : Int) := by omega
                    go_wp2
                    go_roundw
                    case rel => exact ⟨i + 1, hlt, by go_num, HFK.out⟩
                    case measure => simp [intOf]; omega
          · obtain rfl : i = T.length := by omega
            have HFZ := Lib.hid (HF5.out.trans hfr)
            clear hfr
            go_wp2
            go_ret
            exact ⟨rfl, HFZ.out.belowNo⟩
end Go.Proofs.YtnphncemghfkbaaGreat
