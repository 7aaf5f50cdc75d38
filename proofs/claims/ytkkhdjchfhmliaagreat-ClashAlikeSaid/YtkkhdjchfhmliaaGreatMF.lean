/- Where an Id stands first; orders of their own Ids: the walks. Places changed, as often as may be; lists held against one another: the walks. Equal lists are the same; ClashRest: the walk. ClashRest: the walk. -/
import Derived.Test.YtkkhdjchfhmliaaGreatClashJ
import Derived.Test.YtkkhdjchfhmliaaGreatRefO1
namespace Go.Proofs.YtkkhdjchfhmliaaGreat
open Go.RowKit Go.My Go.Maps Go.WideMaps
set_option linter.unusedSimpArgs false
set_option linter.unusedVariables false
attribute [local go_sem ↓] Go.wp_at_zero Go.wp_at_succ

/-- where an Id stands first -/
def atL (L : List Idk) (k : Idk) : Int := match L.findIdx? (fun x => decide (x = k)) with | some i => (i : Int) | none => -1
theorem atL_at {L : List Idk} {k : Idk} {i : Nat} (hi : i < L.length) (h : L[i] = k) (hn : ∀ x ∈ L.take i, x ≠ k) : atL L k = i := by
  unfold atL
  rw [List.findIdx?_eq_some_iff_getElem.2 ⟨hi, decide_eq_true h, fun j hj => by
    have := hn L[j] (List.mem_take_iff_getElem.2 ⟨j, by omega, rfl⟩)
    simp [this]⟩]
theorem atL_none {L : List Idk} {k : Idk} (hn : ∀ x ∈ L, x ≠ k) : atL L k = -1 := by
  unfold atL
  rw [List.findIdx?_eq_none_iff.2 fun x hx => decide_eq_false (hn x hx)]
theorem atL_neg {L : List Idk} {k : Idk} : atL L k < 0 ↔ k ∉ L := by
  unfold atL
  cases h : L.findIdx? (fun x => decide (x = k)) with
  | none =>
    rw [List.findIdx?_eq_none_iff] at h
    simp only
    exact ⟨fun _ hk => by have := h k hk; simp at this, fun _ => by omega⟩
  | some i =>
    obtain ⟨hi, he, _⟩ := List.findIdx?_eq_some_iff_getElem.1 h
    simp only
    exact ⟨fun h => by omega, fun hk => absurd (by rw [← of_decide_eq_true he]; exact List.getElem_mem hi) hk⟩
theorem atL_some {L : List Idk} {k : Idk} {i : Nat} (h : atL L k = i) : L[i]? = some k := by
  unfold atL at h
  cases hf : L.findIdx? (fun x => decide (x = k)) with
  | none => rw [hf] at h; simp only at h; omega
  | some j =>
    rw [hf] at h
    obtain ⟨hi, he, _⟩ := List.findIdx?_eq_some_iff_getElem.1 hf
    have : j = i := by simp only at h; omega
    subst this
    rw [List.getElem?_eq_getElem hi, of_decide_eq_true he]
theorem idsO_getE {l : List Od} {i : Nat} (hi : i < l.length) (h2 : i < (idsO l).length) : (idsO l)[i] = l[i].id := by
  have h := idsO_get l i
  rw [List.getElem?_eq_getElem h2, List.getElem?_eq_getElem hi] at h
  simpa using h
theorem atL_rt {l : List Od} (h : Rt Od.id l) {i : Nat} (hi : i < l.length) : atL (idsO l) l[i].id = i := by
  have hil : i < (idsO l).length := by rw [idsO_length]; exact hi
  have hg : (idsO l)[i] = l[i].id := idsO_getE hi hil
  refine atL_at hil hg fun x hx e => ?_
  obtain ⟨j, hj, rfl⟩ := List.mem_take_iff_getElem.1 hx
  have h1 : j < (idsO l).length := by omega
  have := nodup_inj (L := idsO l) h h1 hil (by rw [hg]; exact e)
  omega
def At10Rel (w : World) (l : List Od) (k : Idk) (iv : Value) (wr : World) : Prop := ∃ n : Nat, n ≤ l.length ∧ iv = .int .i64 n ∧ (∀ x ∈ (idsO l).take n, x ≠ k) ∧ Fr No w wr
set_option maxRecDepth 100000 in
set_option maxHeartbeats 1000000 in
theorem at10_any (w0 w : World) (F : Nat → Prop) (A : Option Addr) (c : Nat) (l : List Od) (a b : Int) (hl : OdsS w0 w F A l) (hn : l.length ≤ 1000000) :
    Calls Tryz.prog 12 #[.slice A l.length c, .agg #[.int .i64 a, .int .i64 b]] w fun e w' => e = .returned (.int .i64 (atL (idsO l) (a, b))) ∧ Fr No w w' := by
  have HL := Lib.hid hl
  have hbx := Blk.new w 36 #[.int .i64 a, .int .i64 b]
  have HBX := Lib.hid hbx
  have HF0 : Hid (Fr No w (w.alloc (.cells #[.int .i64 a, .int .i64 b] 36))) := (Fr.refl _ _).alloc _
  clear hl hbx
  go_enter Tryz.func12, Tryz.ntmps12
  go_upto_region 1 with (fail)
  generalize w.alloc (.cells #[.int .i64 a, .int .i64 b] 36) = w1 at *
  go_wp2
  go_loopw [5] (fun iv wr => At10Rel w1 l (a, b) iv wr) (fun iv _ => l.length - (intOf iv).toNat)
  case atStart => exact ⟨0, Nat.zero_le _, rfl, fun x hx => by simp at hx, Fr.refl _ _⟩
  case round =>
    obtain ⟨k, hk, rfl, hno, hfr⟩ := hrel
    have hk62 : (k : Int) ≤ 1000000 := by omega
    by_cases hlt : k < l.length
    · obtain ⟨ad, v, rfl, _, hok, hg, hL, q0, q1, q2, q3, q4, q5, q6, q7, q8, q9⟩ := (HL.out.fr (HF0.out.trans hfr) (fun _ _ _ h => h)).at_ k hlt
      have hbx := HBX.out.fr hfr (fun h => h)
      have x0 := hbx.cell 0
      have x1 := hbx.cell 1
      simp only [List.getElem?_toArray, List.getElem?_cons_zero, List.getElem?_cons_succ] at x0 x1
      have hil : k < (idsO l).length := by rw [idsO_length]; exact hlt
      have hgi : (idsO l)[k] = (l[k].cl, l[k].sq) := idsO_getE hlt hil
      have HY : Hid ((l[k].cl, l[k].sq) = (a, b) → atL (idsO l) (a, b) = k) := fun e => atL_at hil (hgi.trans e) hno
      have HN : Hid ((l[k].cl, l[k].sq) ≠ (a, b) → ∀ x ∈ (idsO l).take (k + 1), x ≠ (a, b)) := fun e x hx => by
        rw [List.take_succ_eq_append_getElem hil, List.mem_append, List.mem_singleton] at hx
        rcases hx with hx | hx
        · exact hno x hx
        · rw [hx, hgi]; exact e
      have HFR := Lib.hid hfr
      have HLT : Hid (k + 1 ≤ l.length) := hlt
      generalize l[k].cl = cl at *
      generalize l[k].sq = sq at *
      clear q2 q3 q4 q5 q6 q7 q8 q9 hok hg hL hbx hgi hil hno hfr
      by_cases he : cl = a ∧ sq = b
      · obtain ⟨rfl, rfl⟩ := he
        have HY2 := Lib.hid (HY.out rfl)
        clear HY HN
        go_upto_region 4 with (fail)
        go_quiet (fail)
        go_wp2
        go_ret
        exact ⟨by rw [HY2.out]; rfl, (HF0.out.trans HFR.out).drewN _⟩
      · have HN2 := Lib.hid (HN.out (fun e => he ⟨congrArg Prod.fst e, congrArg Prod.snd e⟩))
        have hne := fun W => eq_id cl sq a b W he
        clear HY HN
        go_upto_region 4 with (fail)
        go_quiet (fail)
        go_wp2
        go_roundw
        case rel => exact ⟨k + 1, HLT.out, by go_num, HN2.out, HFR.out.drewN _⟩
        case measure => have := HLT.out; simp [intOf]; omega
    · obtain rfl : k = l.length := by omega
      have HE : Hid (atL (idsO l) (a, b) = -1) := atL_none fun x hx => hno x (by rw [List.take_of_length_le (by rw [idsO_length]; omega)]; exact hx)
      clear hno
      go_wp2
      go_ret
      exact ⟨by rw [HE.out]; rfl, HF0.out.trans hfr⟩

/-- those whose Id wasn't there ahead -/
def ownT (l : List Od) : Nat → List Od
  | 0 => []
  | k + 1 => ownT l k ++ match l[k]? with | some o => (if atL (idsO l) o.id = (k : Int) then [o] else []) | none => []
def ownO (l : List Od) : List Od := ownT l l.length
theorem mem_ownT {l : List Od} : ∀ {k : Nat} {o : Od}, o ∈ ownT l k → ∃ i, i < k ∧ l[i]? = some o ∧ atL (idsO l) o.id = (i : Int)
  | 0, o, h => by cases h
  | k + 1, o, h => by
    unfold ownT at h
    rcases List.mem_append.1 h with h | h
    · obtain ⟨i, h1, h2⟩ := mem_ownT h
      exact ⟨i, by omega, h2⟩
    · cases hk : l[k]? with
      | none => rw [hk] at h; cases h
      | some x =>
        rw [hk] at h
        simp only at h
        split at h
        · rename_i he
          rw [List.mem_singleton] at h
          subst h
          exact ⟨k, by omega, hk, he⟩
        · cases h
theorem ownT_rt (l : List Od) : ∀ k, Rt Od.id (ownT l k)
  | 0 => Rt.nil
  | k + 1 => by
    have ih := ownT_rt l k
    unfold ownT
    cases hk : l[k]? with
    | none => simpa using ih
    | some x =>
      simp only
      split
      · rename_i he
        unfold Rt at ih ⊢
        rw [List.map_append, List.nodup_append]
        refine ⟨ih, by simp, fun a ha b hb e => ?_⟩
        simp only [List.map_cons, List.map_nil, List.mem_singleton] at hb
        obtain ⟨o, ho, rfl⟩ := List.mem_map.1 ha
        obtain ⟨i, h1, _, h2⟩ := mem_ownT ho
        rw [e, hb, he] at h2
        omega
      · simpa using ih
theorem own_rt (l : List Od) : Rt Od.id (ownO l) := ownT_rt l _
theorem mem_own {l : List Od} {o : Od} (h : o ∈ ownO l) : o ∈ l := by
  obtain ⟨i, _, h, _⟩ := mem_ownT h
  exact List.mem_of_getElem? h
theorem ownT_len (l : List Od) : ∀ k, (ownT l k).length ≤ k
  | 0 => Nat.le_refl _
  | k + 1 => by
    have ih := ownT_len l k
    unfold ownT
    rw [List.length_append]
    cases hk : l[k]? with
    | none => simp; omega
    | some x => simp only; split <;> simp <;> omega
def OwRel (w0 w : World) (l : List Od) (lv iv : Value) (wr : World) : Prop := ∃ k : Nat, k ≤ l.length ∧ iv = .int .i64 k ∧ OwnO w0 wr lv (ownT l k) ∧ Fr No w wr ∧ Newer w.heap.size none lv.ownBlock
set_option maxRecDepth 100000 in
set_option maxHeartbeats 1000000 in
theorem own10_any (w0 w : World) (F : Nat → Prop) (A : Option Addr) (c : Nat) (l : List Od) (hl : OdsS w0 w F A l) (hn : l.length ≤ 1000000) :
    Calls Tryz.prog 6 #[.slice A l.length c] w (FewRet w0 w (ownO l)) := by
  have HL := Lib.hid hl
  have HAT : Hid (∀ W a b, Fr No w W → Calls Tryz.prog 12 #[.slice A l.length c, .agg #[.int .i64 a, .int .i64 b]] W fun e w' => e = .returned (.int .i64 (atL (idsO l) (a, b))) ∧ Fr No W w') := fun W a b hW => at10_any w0 W F A c l a b (hl.fr hW (fun _ _ _ h => h)) hn
  clear hl
  go_enter Tryz.func6, Tryz.ntmps6
  go_wp2
  go_loopw [3, 4] (fun lv iv wr => OwRel w0 w l lv iv wr) (fun _ iv _ => l.length - (intOf iv).toNat)
  case atStart => exact ⟨0, Nat.zero_le _, rfl, OwnO.nil _ _, Fr.refl _ _, .inl rfl⟩
  case round =>
    obtain ⟨k, hk, rfl, hown, hfr, hnew⟩ := hrel
    have hk62 : (k : Int) ≤ 1000000 := by omega
    by_cases hlt : k < l.length
    · obtain ⟨ad, v, rfl, _, hok, hg, hL, q0, q1, q2, q3, q4, q5, q6, q7, q8, q9⟩ := (HL.out.fr hfr (fun _ _ _ h => h)).at_ k hlt
      obtain ⟨B, d, rfl, hd1, hd2⟩ := hL.form
      have HTK : Hid (ownT l (k + 1) = ownT l k ++ if atL (idsO l) (l[k].cl, l[k].sq) = (k : Int) then [l[k]] else []) := by
        show _ = _
        conv => lhs; unfold ownT
        rw [List.getElem?_eq_getElem hlt]
        rfl
      have HO : Hid (OdR w0 [.int .i64 l[k].cl, .int .i64 l[k].sq, .int .i64 l[k].kd, .string l[k].acct, .string l[k].peer, .int .i64 l[k].sum, .slice B l[k].legs.length d, .int .i64 l[k].per, .int .i64 l[k].hold, .string l[k].note] l[k]) := ⟨_, rfl, hok, hg, hL⟩
      have HLK : Hid ((ownT l k).length ≤ k) := ownT_len l k
      have HFR := Lib.hid hfr
      have HNW := Lib.hid hnew
      have HLT : Hid (k + 1 ≤ l.length) := hlt
      have HOWN := Lib.hid hown
      obtain ⟨cells, ho, hE⟩ := hown
      have HOO := Lib.hid ho
      have HE := Lib.hid hE
      generalize l[k].legs.length = Ln at *
      generalize l[k].cl = cl at *
      generalize l[k].sq = sq at *
      generalize l[k].kd = kd at *
      generalize l[k].acct = acct at *
      generalize l[k].peer = peer at *
      generalize l[k].sum = sum at *
      generalize l[k].per = per at *
      generalize l[k].hold = hold at *
      generalize l[k].note = note at *
      generalize l[k] = ok_ at *
      clear hok hg hL ho hE hfr hnew
      have HAK := Lib.hid (HAT.out wr cl sq HFR.out)
      generalize ownT l k = lk at *
      by_cases he : atL (idsO l) (cl, sq) = (k : Int)
      · rw [he] at HAK HTK
        have HTK2 : Hid (ownT l (k + 1) = lk ++ [ok_]) := by show _ = _; rw [HTK.out, if_pos rfl]
        clear HTK he
        go_wp2_with fail
        (with_reducible refine HAK.out.mono ?_)
        rintro e w1 ⟨rfl, hf1⟩
        have HR : Hid (∀ p v, wr.cell? p = some v → w1.cell? p = some v) := fun p v h => hf1.cell_some h (fun h => h)
        have r0 := HR.out _ _ q0
        have r1 := HR.out _ _ q1
        have r2 := HR.out _ _ q2
        have r3 := HR.out _ _ q3
        have r4 := HR.out _ _ q4
        have r5 := HR.out _ _ q5
        have r6 := HR.out _ _ q6
        have r7 := HR.out _ _ q7
        have r8 := HR.out _ _ q8
        have r9 := HR.out _ _ q9
        have HF1 := Lib.hid hf1
        clear q0 q1 q2 q3 q4 q5 q6 q7 q8 q9 hf1 HR
        go_wp2_with (at_builtin; refine wpList_app _ rfl (.tmp 20) (.tmp 25) 22 22 rfl elO ((HOO.out.fr HF1.out (fun _ _ h => h)).alloc _) rfl (Src.of_new (cs := #[.int .i64 cl, .int .i64 sq, .int .i64 kd, .string acct, .string peer, .int .i64 sum, .slice B Ln d, .int .i64 per, .int .i64 hold, .string note]) (t := 39) w1.heap.size (heap_alloc_new w1 _) Tryz.underlying22 rfl (by simp [Value.oneCell'])) rfl (by have := HLK.out; simp only [maxLen]; omega) (by have := HLK.out; omega) ?_; intro v1 w3 hown3 hfr3 hnew3)
        go_roundw
        case rel =>
          refine ⟨k + 1, HLT.out, by go_num, ?_, ?_, ?_⟩
          · rw [HTK2.out]
            exact ⟨_, by rw [List.length_append]; exact hown3, Each.snocO HE.out rfl HO.out⟩
          · refine ((HFR.out.trans HF1.out).alloc _).trans' hfr3 fun i hi hlt => ?_
            have hi : _ = some i := hi
            have := newer_none HNW.out i hi
            omega
          · refine HNW.out.trans (Newer.of hnew3) ?_
            rw [World.size_alloc]
            have h1 := HF1.out.size
            have := HFR.out.size
            omega
        case measure => have := HLT.out; simp [intOf]; omega
      · have HTK2 : Hid (ownT l (k + 1) = lk) := by show _ = _; rw [HTK.out, if_neg he, List.append_nil]
        have hbe : (atL (idsO l) (cl, sq) == (k : Int)) = false := beq_eq_false_iff_ne.2 he
        generalize atL (idsO l) (cl, sq) = at_ at *
        clear HTK he
        go_wp2_with fail
        (with_reducible refine HAK.out.mono ?_)
        rintro e w1 ⟨rfl, hf1⟩
        clear q0 q1 q2 q3 q4 q5 q6 q7 q8 q9
        have HF1 := Lib.hid hf1
        clear hf1
        go_wp2
        go_roundw
        case rel =>
          refine ⟨k + 1, HLT.out, by go_num, ?_, HFR.out.trans HF1.out, HNW.out⟩
          rw [HTK2.out]
          exact ⟨cells, HOO.out.fr HF1.out (fun _ _ h => h), HE.out⟩
        case measure => have := HLT.out; simp [intOf]; omega
    · obtain rfl : k = l.length := by omega
      obtain ⟨A1, c1, rfl, hl1, hm1⟩ := OwnO.form hown
      have HR := Lib.hid (OwnO.ret hown hfr hnew)
      go_wp2
      go_ret
      exact ⟨_, _, rfl, HR.out, hl1, hm1, hfr⟩
end Go.Proofs.YtkkhdjchfhmliaaGreat

namespace Go.Proofs.YtkkhdjchfhmliaaGreat
open Go.RowKit Go.My Go.Maps Go.WideMaps
set_option linter.unusedSimpArgs false
set_option linter.unusedVariables false
attribute [local go_sem ↓] Go.wp_at_zero Go.wp_at_succ

def Tr : Nat → Prop := fun _ => True
theorem OwnN.ls {B : Nat} {w : World} {A : Option Addr} {c : Nat} {l : List Od} (h : OwnN B w (.slice A l.length c) l) (hn : l.length ≤ 1000000) (hs : ∀ o ∈ l, o.legs.length ≤ 100000) : Ls w Tr A c l := by
  obtain ⟨A2, c2, e, h1, h2⟩ := h.form
  injection e with e1 e2 e3
  subst e1 e3
  exact ⟨h.ods.more fun _ _ => trivial, hn, h1, hs⟩
/-- handed back: a list that is alike -/
def MxRet (w : World) (l : List Od) (e : Ending) (w' : World) : Prop := ∃ A c m, e = .returned (.slice A m.length c) ∧ Ls w' Tr A c m ∧ m.length = l.length ∧ Ak Od.id clashB l m ∧ Fr No w w' ∧ c ≤ maxLen
def MxRel (w : World) (l : List Od) (n : Nat) (lv iv : Value) (wr : World) : Prop := ∃ k A c m, lv = .slice A (m : List Od).length c ∧ iv = .int .i64 (k : Nat) ∧ k ≤ n ∧ Ls wr Tr A c m ∧ m.length = l.length ∧ Ak Od.id clashB l m ∧ Fr No w wr ∧ c ≤ maxLen
theorem len_succ {n : Nat} (h : n ≤ 1000000) : wrap64 ((n : Int) + 1) = (n : Int) + 1 ∧ IntKind.u64.wrap ((n : Int) + 1) = (n : Int) + 1 ∧ ¬ ((n : Int) + 1 = 0) := by
  refine ⟨IntWalk.wrap64_in _ ⟨by omega, by omega⟩, ?_, by omega⟩
  rw [IntKind.wrap_u64]
  omega
theorem j_in {j n : Nat} (h : j < n + 1) (hn : n ≤ 1000000) : In64 (j : Int) := by
  unfold In64
  omega
theorem swapI_nat {l m : List Od} {i : Int} (h : swapI l i = some m) : ∃ k, swapO l k = some m := by
  unfold swapI at h
  split at h
  · exact ⟨_, h⟩
  · cases h
theorem swap_mem {l m : List Od} {i : Nat} (h : swapO l i = some m) : m.length = l.length ∧ ∀ o ∈ m, o ∈ l := by
  obtain ⟨p, x, y, r, rfl, rfl, -, -⟩ := swap_form h
  refine ⟨by simp, fun o ho => ?_⟩
  simp only [List.mem_append, List.mem_cons] at ho ⊢
  rcases ho with ho | ho | ho | ho
  · exact .inl ho
  · exact .inr (.inr (.inl ho))
  · exact .inr (.inl ho)
  · exact .inr (.inr (.inr ho))
set_option maxRecDepth 100000 in
set_option maxHeartbeats 1000000 in
theorem mixed_any (w : World) (F G : Nat → Prop) (A B : Option Addr) (c d : Nat) (l : List Od) (S : List Int) (hl : Ls w F A c l) (hc : c ≤ maxLen) (hrt : Rt Od.id l) (hS : Rd w G 1 B S.length (is_ S)) (hSb : S.length ≤ 9223372036854775807) (hI : ∀ x ∈ S, In64 x) :
    Calls Tryz.prog 8 #[.slice A l.length c, .slice B S.length d] w (MxRet w l) := by
  have HS := Lib.hid hS
  have HI := Lib.hid hI
  have HRT := Lib.hid hrt
  have HST : Hid (MxRel w l S.length (.slice A l.length c) (.int .i64 0) w) := ⟨0, A, c, l, rfl, rfl, Nat.zero_le _, ⟨hl.ods.more fun _ _ => trivial, hl.n, hl.c, hl.s⟩, rfl, Ak.refl hrt, Fr.refl _ _, hc⟩
  have hn := hl.n
  clear hS hI hl hrt
  go_enter Tryz.func8, Tryz.ntmps8
  go_wp2
  go_loopw [0, 5] (fun lv iv wr => MxRel w l S.length lv iv wr) (fun _ iv _ => S.length - (intOf iv).toNat)
  case atStart => exact HST.out
  case round =>
    obtain ⟨k, A1, c1, m, rfl, rfl, hk, hls, hlen, hak, hfr, hc1⟩ := hrel
    by_cases hlt : k < S.length
    · by_cases h2 : k < 200
      · obtain ⟨ad, u, rfl, _, hu, q0⟩ := (HS.out.fr (by omega) hfr (fun _ _ _ h => h)).at_ hlt
        have hx : In64 S[k] := HI.out _ (List.getElem_mem hlt)
        have hux : u = .int .i64 S[k] := by
          have := is_get S k hlt
          rw [this] at hu
          injection hu with hu
          exact hu.symm
        subst hux
        generalize S[k] = x at *
        have hk62 : (k : Int) ≤ 200 := by omega
        have hni : (k : Int) < S.length := by omega
        obtain ⟨j, hj, hjl⟩ := umod x (m.length + 1) (by omega) (by have := hls.n; omega)
        have hj' : wrap64 ((IntKind.u64.wrap x).tmod ((m.length : Int) + 1)) = (j : Int) := hj
        obtain ⟨hw1, hw2, hnz⟩ := len_succ hls.n
        have hji : In64 (j : Int) := j_in hjl hls.n
        have HSW : Hid (Calls Tryz.prog 13 #[.slice A1 m.length c1, .int .i64 (j : Int)] wr (SwRet wr (swapI m j))) := swapC_any wr Tr A1 c1 m j hls hji
        have HAK := Lib.hid hak
        have HLS := Lib.hid hls
        have HFR := Lib.hid hfr
        have HLT : Hid (k + 1 ≤ S.length) := hlt
        have HLEN := Lib.hid hlen
        have HC1 := Lib.hid hc1
        have HRM := Lib.hid (hak.2.2.1)
        clear hx hj hjl hji hak hls hfr hlt hlen hc1 hn hSb
        cases hsw : swapI m j with
        | none =>
          rw [hsw] at HSW
          have HSW2 : Hid (Calls Tryz.prog 13 #[.slice A1 m.length c1, .int .i64 (j : Int)] wr fun e w' => e = .returned (.tuple #[.slice none 0 0, .bool false]) ∧ Fr No wr w') := HSW.out
          clear HSW hsw
          go_wp2_with fail
          (with_reducible refine HSW2.out.mono ?_)
          rintro e w1 ⟨rfl, hf1⟩
          clear q0
          go_wp2
          go_roundw
          case rel => exact ⟨k + 1, A1, c1, m, rfl, by go_num, HLT.out, HLS.out.no hf1, HLEN.out, HAK.out, HFR.out.trans hf1, HC1.out⟩
          case measure => have := HLT.out; simp [intOf]; omega
        | some m2 =>
          rw [hsw] at HSW
          have HSW2 : Hid (Calls Tryz.prog 13 #[.slice A1 m.length c1, .int .i64 (j : Int)] wr (RetN2 wr m2 true)) := HSW.out
          obtain ⟨i0, hi0⟩ := swapI_nat hsw
          have HM := Lib.hid (swap_mem hi0)
          have HAK2 := Lib.hid (HAK.out.trans (swap_ak HRM.out hi0))
          clear HSW hsw hi0
          go_wp2_with fail
          (with_reducible refine HSW2.out.mono ?_)
          rintro e w1 ⟨A2, c2, rfl, ho2, hf1, -⟩
          have HO2 := Lib.hid ho2
          clear q0 ho2
          go_wp2
          go_roundw
          case rel =>
            have h1 := HM.out.1
            have h2 := HLS.out.n
            obtain ⟨_, _, e, _, hc2⟩ := HO2.out.form
            injection e with _ _ e3
            subst e3
            exact ⟨k + 1, A2, c2, m2, rfl, by go_num, HLT.out, HO2.out.ls (by omega) (fun o ho => HLS.out.s o (HM.out.2 o ho)), h1.trans HLEN.out, HAK2.out, HFR.out.trans hf1, hc2⟩
          case measure => have := HLT.out; simp [intOf]; omega
      · have HR : Hid (MxRet w l (.returned (.slice A1 m.length c1)) wr) := ⟨A1, c1, m, rfl, hls, hlen, hak, hfr, hc1⟩
        have hd : ¬ (k : Int) < 200 := by omega
        have hd2 : (k : Int) < S.length := by omega
        clear hls hlen hak hfr hc1 hn hSb
        go_wp2
        go_ret
        exact HR.out
    · have HR : Hid (MxRet w l (.returned (.slice A1 m.length c1)) wr) := ⟨A1, c1, m, rfl, hls, hlen, hak, hfr, hc1⟩
      have hd2 : ¬ (k : Int) < S.length := by omega
      clear hls hlen hak hfr hc1 hn hSb
      go_wp2
      go_ret
      exact HR.out
end Go.Proofs.YtkkhdjchfhmliaaGreat

namespace Go.Proofs.YtkkhdjchfhmliaaGreat
open Go.RowKit Go.My Go.Maps Go.WideMaps
set_option linter.unusedSimpArgs false
set_option linter.unusedVariables false
attribute [local go_sem ↓] Go.wp_at_zero Go.wp_at_succ

def SmRel (w : World) (n : Nat) (iv : Value) (wr : World) : Prop := ∃ k : Nat, k ≤ n ∧ iv = .int .i64 k ∧ Fr No w wr
set_option maxRecDepth 100000 in
set_option maxHeartbeats 1000000 in
theorem same10_eq (w : World) (F G : Nat → Prop) (A B : Option Addr) (c d : Nat) (l : List Od) (ha : Ls w F A c l) (hb : Ls w G B d l) :
    Calls Tryz.prog 14 #[.slice A l.length c, .slice B l.length d] w fun e w' => e = .returned (.bool true) ∧ Fr No w w' := by
  have HA := Lib.hid ha
  have HB := Lib.hid hb
  have hn := ha.n
  clear ha hb
  go_enter Tryz.func14, Tryz.ntmps14
  go_wp2
  go_loopw [5] (fun iv wr => SmRel w l.length iv wr) (fun iv _ => l.length - (intOf iv).toNat)
  case atStart => exact ⟨0, Nat.zero_le _, rfl, Fr.refl _ _⟩
  case round =>
    obtain ⟨k, hk, rfl, hfr⟩ := hrel
    have hk62 : (k : Int) ≤ 1000000 := by omega
    by_cases hlt : k < l.length
    · obtain ⟨ad, v, rfl, _, hok, hg, hL, q0, q1, q2, q3, q4, q5, q6, q7, q8, q9⟩ := (HA.out.no hfr).ods.at_ k hlt
      obtain ⟨bd, u, rfl, _, hok2, hg2, hM, r0, r1, r2, r3, r4, r5, r6, r7, r8, r9⟩ := (HB.out.no hfr).ods.at_ k hlt
      obtain ⟨vA, vc, rfl, -, -⟩ := hL.form
      obtain ⟨uA, uc, rfl, -, -⟩ := hM.form
      have HS : Hid (∀ W, Fr No wr W → Calls Tryz.prog 26 #[l[k].val (.slice vA l[k].legs.length vc), l[k].val (.slice uA l[k].legs.length uc)] W fun e w' => e = .returned (.bool true) ∧ Fr No W w') := fun W hW => by
        have h := refsameO_any _ _ l[k] l[k] _ _ W (hL.no hW) (hM.no hW)
        rw [(eqO_iff _ _).2 rfl] at h
        exact h
      unfold Od.val Od.cs at HS
      simp only [List.toArray] at HS
      have HFR := Lib.hid hfr
      have HLT : Hid (k + 1 ≤ l.length) := hlt
      have hkl : (k : Int) < l.length := by omega
      clear hok hg hL hok2 hg2 hM hfr
      generalize l[k].legs.length = vn at *
      generalize l[k].cl = cl at *
      generalize l[k].sq = sq at *
      generalize l[k].kd = kd at *
      generalize l[k].acct = acct at *
      generalize l[k].peer = peer at *
      generalize l[k].sum = sum at *
      generalize l[k].per = per at *
      generalize l[k].hold = hold at *
      generalize l[k].note = note at *
      have xa0 := fun x : WIn (Fr No wr) => x.h.cell_some q0 (fun h => h)
      have xb0 := fun x : WIn (Fr No wr) => x.h.cell_some r0 (fun h => h)
      have xa1 := fun x : WIn (Fr No wr) => x.h.cell_some q1 (fun h => h)
      have xb1 := fun x : WIn (Fr No wr) => x.h.cell_some r1 (fun h => h)
      have xa2 := fun x : WIn (Fr No wr) => x.h.cell_some q2 (fun h => h)
      have xb2 := fun x : WIn (Fr No wr) => x.h.cell_some r2 (fun h => h)
      have xa3 := fun x : WIn (Fr No wr) => x.h.cell_some q3 (fun h => h)
      have xb3 := fun x : WIn (Fr No wr) => x.h.cell_some r3 (fun h => h)
      have xa4 := fun x : WIn (Fr No wr) => x.h.cell_some q4 (fun h => h)
      have xb4 := fun x : WIn (Fr No wr) => x.h.cell_some r4 (fun h => h)
      have xa5 := fun x : WIn (Fr No wr) => x.h.cell_some q5 (fun h => h)
      have xb5 := fun x : WIn (Fr No wr) => x.h.cell_some r5 (fun h => h)
      have xa6 := fun x : WIn (Fr No wr) => x.h.cell_some q6 (fun h => h)
      have xb6 := fun x : WIn (Fr No wr) => x.h.cell_some r6 (fun h => h)
      have xa7 := fun x : WIn (Fr No wr) => x.h.cell_some q7 (fun h => h)
      have xb7 := fun x : WIn (Fr No wr) => x.h.cell_some r7 (fun h => h)
      have xa8 := fun x : WIn (Fr No wr) => x.h.cell_some q8 (fun h => h)
      have xb8 := fun x : WIn (Fr No wr) => x.h.cell_some r8 (fun h => h)
      have xa9 := fun x : WIn (Fr No wr) => x.h.cell_some q9 (fun h => h)
      have xb9 := fun x : WIn (Fr No wr) => x.h.cell_some r9 (fun h => h)
      clear q0 r0 q1 r1 q2 r2 q3 r3 q4 r4 q5 r5 q6 r6 q7 r7 q8 r8 q9 r9
      have hne : Nonempty (WIn (Fr No wr)) := ⟨⟨_, Fr.refl _ _⟩⟩
      go_upto_region 6 with (fail)
      refine wp_region_in (D := Fr No wr) (by kernel_rfl) (by kernel_rfl) (Fr.refl _ _).drew ?_
      repeat (go_big_quiet_step ((first | (go_at_call 26; refine Calls.in_of (v := .bool true) _ fun W hW => ?_; (with_reducible refine (HS.out W hW).mono ?_); exact fun _ _ h => ⟨h.1, Fr.trans hW h.2⟩))))
      refine wpQuiet_nil ?_
      rintro _ ⟨⟨w2, hq2⟩, rfl⟩
      clear xa0 xa1 xa2 xa3 xa4 xa5 xa6 xa7 xa8 xa9 xb0 xb1 xb2 xb3 xb4 xb5 xb6 xb7 xb8 xb9
      go_wp2
      go_roundw
      case rel => exact ⟨k + 1, HLT.out, by go_num, HFR.out.trans hq2⟩
      case measure => have := HLT.out; simp [intOf]; omega
    · obtain rfl : k = l.length := by omega
      go_wp2
      go_ret
      exact ⟨rfl, hfr⟩
theorem OdsS.up {w0 w : World} {F : Nat → Prop} {A : Option Addr} {l : List Od} (h : OdsS w0 w F A l) (hf : Fr No w0 w) : OdsS w w F A l := by
  obtain ⟨cells, hr, hE⟩ := h
  exact ⟨cells, hr, each_imp hE fun cs o ⟨v, h1, h2, h3, h4⟩ => ⟨v, h1, h2, h3, (h4.no hf).more fun k hk => Nat.lt_of_lt_of_le hk hf.size⟩⟩
theorem few_s {l : List Od} {n : Nat} : ∀ o ∈ fewO l n, o.legs.length ≤ 100000 := fun o ho => by
  unfold fewO at ho
  obtain ⟨x, _, rfl⟩ := List.mem_map.1 ho
  unfold Od.few8
  simp only [List.length_take]
  omega
/-- the list that a law speaks of -/
def lawL (l : List Od) (n : Nat) : List Od := ownO (fewO l n)
theorem lawL_len (l : List Od) (n : Nat) : (lawL l n).length ≤ n := by
  have h1 := ownT_len (fewO l n) (fewO l n).length
  have h2 := fewO_length l n
  show (ownO (fewO l n)).length ≤ n
  unfold ownO
  omega
theorem lawL_rt (l : List Od) (n : Nat) : Rt Od.id (lawL l n) := own_rt _
theorem lawL_s (l : List Od) (n : Nat) : ∀ o ∈ lawL l n, o.legs.length ≤ 100000 := fun o ho => few_s o (mem_own ho)
theorem lawL_ls {w0 w : World} {F : Nat → Prop} {A : Option Addr} {c n : Nat} {l : List Od} (h : OdsS w0 w F A (lawL l n)) (hf : Fr No w0 w) (hc : (lawL l n).length ≤ c) (hn : n ≤ 1000) : Ls w Tr A c (lawL l n) :=
  ⟨(h.up hf).more fun _ _ => trivial, by have := lawL_len l n; omega, hc, lawL_s l n⟩
/-- no orders -/
theorem Ls.nil (w : World) (c : Nat) : Ls w Tr none c [] := ⟨⟨[], Rd.none_, ⟨rfl, fun i x hx => by simp at hx⟩⟩, by simp, by simp, fun o ho => by cases ho⟩
theorem begins_refl {a : List Od} (h : Rt Od.id a) : beginsB a a = true := (beginsB_iff _ _).2 (Bg.refl h)
theorem begins_nil {a : List Od} (h : Rt Od.id a) : beginsB [] a = true := (beginsB_iff _ _).2 (Bg.nil h)
theorem rest_nil {b : List Od} (h : Rt Od.id b) : restO [] b = b := by
  unfold restO
  rw [begins_nil h, if_pos rfl]
  exact others_nil b
theorem rest_self {b : List Od} (h : Rt Od.id b) : restO b b = [] := by
  unfold restO
  rw [begins_refl h, if_pos rfl]
  exact others_self b
theorem rest_len {a b : List Od} (h : beginsB a b = true) : a.length + (restO a b).length = b.length := by
  have h1 := (Bg.rest clashB_comm ((beginsB_iff _ _).1 h)).1
  unfold restO
  rw [if_pos h]
  rw [List.length_append] at h1
  exact h1
theorem mem_rest {a b : List Od} {o : Od} (h : o ∈ restO a b) : o ∈ b ∧ o.id ∉ idsO a := by
  unfold restO at h
  split at h
  · exact mem_others.1 h
  · cases h
end Go.Proofs.YtkkhdjchfhmliaaGreat

namespace Go.Proofs.YtkkhdjchfhmliaaGreat
open Go.RowKit Go.My Go.Maps Go.WideMaps
set_option linter.unusedSimpArgs false
set_option linter.unusedVariables false
attribute [local go_sem ↓] Go.wp_at_zero Go.wp_at_succ

/-- few, then own -/
theorem few_own (w W : World) (A : Option Addr) (c n : Nat) (l : List Od) (hl : OdsS w w (Lt w.heap.size) A l) (hlc : l.length ≤ c) (hcm : c ≤ maxLen) (hn : n ≤ 1000) (hW : Fr No w W) :
    Calls Tryz.prog 7 #[.slice A l.length c, .int .i64 (n : Int)] W fun e w1 => ∃ A1 c1 m, e = .returned (.slice A1 m c1) ∧ Fr No W w1 ∧ ∀ W1, Fr No w1 W1 →
      Calls Tryz.prog 6 #[.slice A1 m c1] W1 fun e w2 => ∃ A2 c2, e = .returned (.slice A2 (lawL l n).length c2) ∧ Ls w2 Tr A2 c2 (lawL l n) ∧ Fr No W1 w2 ∧ c2 ≤ maxLen := by
  refine (few10_any w W _ A c l n (hl.fr hW (fun _ _ _ h => h)) hlc hcm hn).mono ?_
  rintro e w1 ⟨A1, c1, rfl, ho, h1, h2, hf1⟩
  refine ⟨A1, c1, _, rfl, hf1, fun W1 hW1 => ?_⟩
  refine (own10_any w W1 _ A1 c1 (fewO l n) (ho.fr hW1 (fun _ _ _ h => h)) (by have := fewO_length l n; omega)).mono ?_
  rintro e w2 ⟨A2, c2, rfl, ho2, h3, h4, hf2⟩
  exact ⟨A2, c2, rfl, lawL_ls ho2 (((hW.trans hf1).trans hW1).trans hf2) h3 hn, hf2, h4⟩
def PrRel (w : World) (n : Nat) (iv : Value) (wr : World) : Prop := ∃ k : Nat, k ≤ n ∧ iv = .int .i64 k ∧ Fr No w wr
end Go.Proofs.YtkkhdjchfhmliaaGreat
