/- Where an Id stands first; orders of their own Ids; places changed. -/
import Derived.Test.YtlanhclgbkhdlaaGreatQ18
import Derived.Test.YtlanhclgbkhdlaaGreatClashG
namespace Go.Proofs.YtlanhclgbkhdlaaGreat
open Go.RowKit Go.My Go.Maps Go.WideMaps
set_option linter.unusedSimpArgs false
set_option linter.unusedVariables false
attribute [local go_sem ↓] Go.wp_at_zero Go.wp_at_succ

/-- where an Id stands first -/
def atL (L : List Idk) (k : Idk) : Int := match L.findIdx? (fun x => decide (x = k)) with | some i => (i : Int) | none => -1
theorem atL_at {L : List Idk} {k : Idk} {i : Nat} (hi : i < L.length) (h : L[i] = k) (hn : ∀ x ∈ L.take i, x ≠ k) : atL L k = i := by
  unfold atL
  rw [List.findIdx?_eq_some_iff_getElem.2 ⟨hi, decide_eq_true h, fun j hj => by
    have := hn L[j] (List.mem_take_iff_getElem.2 ⟨j, by omega, rfl⟩)
    simp [this]⟩]
theorem atL_none {L : List Idk} {k : Idk} (hn : ∀ x ∈ L, x ≠ k) : atL L k = -1 := by
  unfold atL
  rw [List.findIdx?_eq_none_iff.2 fun x hx => decide_eq_false (hn x hx)]
theorem atL_neg {L : List Idk} {k : Idk} : atL L k < 0 ↔ k ∉ L := by
  unfold atL
  cases h : L.findIdx? (fun x => decide (x = k)) with
  | none =>
    rw [List.findIdx?_eq_none_iff] at h
    simp only
    exact ⟨fun _ hk => by have := h k hk; simp at this, fun _ => by omega⟩
  | some i =>
    obtain ⟨hi, he, _⟩ := List.findIdx?_eq_some_iff_getElem.1 h
    simp only
    exact ⟨fun h => by omega, fun hk => absurd (by rw [← of_decide_eq_true he]; exact List.getElem_mem hi) hk⟩
theorem atL_some {L : List Idk} {k : Idk} {i : Nat} (h : atL L k = i) : L[i]? = some k := by
  unfold atL at h
  cases hf : L.findIdx? (fun x => decide (x = k)) with
  | none => rw [hf] at h; simp only at h; omega
  | some j =>
    rw [hf] at h
    obtain ⟨hi, he, _⟩ := List.findIdx?_eq_some_iff_getElem.1 hf
    have : j = i := by simp only at h; omega
    subst this
    rw [List.getElem?_eq_getElem hi, of_decide_eq_true he]
theorem idsO_getE {l : List Od} {i : Nat} (hi : i < l.length) (h2 : i < (idsO l).length) : (idsO l)[i] = l[i].id := by
  have h := idsO_get l i
  rw [List.getElem?_eq_getElem h2, List.getElem?_eq_getElem hi] at h
  simpa using h
theorem atL_rt {l : List Od} (h : Rt Od.id l) {i : Nat} (hi : i < l.length) : atL (idsO l) l[i].id = i := by
  have hil : i < (idsO l).length := by rw [idsO_length]; exact hi
  have hg : (idsO l)[i] = l[i].id := idsO_getE hi hil
  refine atL_at hil hg fun x hx e => ?_
  obtain ⟨j, hj, rfl⟩ := List.mem_take_iff_getElem.1 hx
  have h1 : j < (idsO l).length := by omega
  have := nodup_inj (L := idsO l) h h1 hil (by rw [hg]; exact e)
  omega
def At10Rel (w : World) (l : List Od) (k : Idk) (iv : Value) (wr : World) : Prop := ∃ n : Nat, n ≤ l.length ∧ iv = .int .i64 n ∧ (∀ x ∈ (idsO l).take n, x ≠ k) ∧ Fr No w wr
set_option maxRecDepth 100000 in
set_option maxHeartbeats 1000000 in
theorem at10_any (w0 w : World) (F : Nat → Prop) (A : Option Addr) (c : Nat) (l : List Od) (a b : Int) (hl : OdsS w0 w F A l) (hn : l.length ≤ 1000000) :
    Calls Tryz.prog 9 #[.slice A l.length c, .agg #[.int .i64 a, .int .i64 b]] w fun e w' => e = .returned (.int .i64 (atL (idsO l) (a, b))) ∧ Fr No w w' := by
  have HL := Lib.hid hl
  have hbx := Blk.new w 28 #[.int .i64 a, .int .i64 b]
  have HBX := Lib.hid hbx
  have HF0 : Hid (Fr No w (w.alloc (.cells #[.int .i64 a, .int .i64 b] 28))) := (Fr.refl _ _).alloc _
  clear hl hbx
  go_enter Tryz.func9, Tryz.ntmps9
  go_upto_region 1 with (fail)
  generalize w.alloc (.cells #[.int .i64 a, .int .i64 b] 28) = w1 at *
  go_wp2
  go_loopw [5] (fun iv wr => At10Rel w1 l (a, b) iv wr) (fun iv _ => l.length - (intOf iv).toNat)
  case atStart => exact ⟨0, Nat.zero_le _, rfl, fun x hx => by simp at hx, Fr.refl _ _⟩
  case round =>
    obtain ⟨k, hk, rfl, hno, hfr⟩ := hrel
    have hk62 : (k : Int) ≤ 1000000 := by omega
    by_cases hlt : k < l.length
    · obtain ⟨ad, v, rfl, _, hok, hg, hL, q0, q1, q2, q3, q4, q5, q6, q7, q8, q9⟩ := (HL.out.fr (HF0.out.trans hfr) (fun _ _ _ h => h)).at_ k hlt
      have hbx := HBX.out.fr hfr (fun h => h)
      have x0 := hbx.cell 0
      have x1 := hbx.cell 1
      simp only [List.getElem?_toArray, List.getElem?_cons_zero, List.getElem?_cons_succ] at x0 x1
      have hil : k < (idsO l).length := by rw [idsO_length]; exact hlt
      have hgi : (idsO l)[k] = (l[k].cl, l[k].sq) := idsO_getE hlt hil
      have HY : Hid ((l[k].cl, l[k].sq) = (a, b) → atL (idsO l) (a, b) = k) := fun e => atL_at hil (hgi.trans e) hno
      have HN : Hid ((l[k].cl, l[k].sq) ≠ (a, b) → ∀ x ∈ (idsO l).take (k + 1), x ≠ (a, b)) := fun e x hx => by
        rw [List.take_succ_eq_append_getElem hil, List.mem_append, List.mem_singleton] at hx
        rcases hx with hx | hx
        · exact hno x hx
        · rw [hx, hgi]; exact e
      have HFR := Lib.hid hfr
      have HLT : Hid (k + 1 ≤ l.length) := hlt
      generalize l[k].cl = cl at *
      generalize l[k].sq = sq at *
      clear q2 q3 q4 q5 q6 q7 q8 q9 hok hg hL hbx hgi hil hno hfr
      by_cases he : cl = a ∧ sq = b
      · obtain ⟨rfl, rfl⟩ := he
        have HY2 := Lib.hid (HY.out rfl)
        clear HY HN
        go_upto_region 4 with (fail)
        go_quiet (fail)
        go_wp2
        go_ret
        exact ⟨by rw [HY2.out]; rfl, (HF0.out.trans HFR.out).drewN _⟩
      · have HN2 := Lib.hid (HN.out (fun e => he ⟨congrArg Prod.fst e, congrArg Prod.snd e⟩))
        have hne := fun W => eq_id cl sq a b W he
        clear HY HN
        go_upto_region 4 with (fail)
        go_quiet (fail)
        go_wp2
        go_roundw
        case rel => exact ⟨k + 1, HLT.out, by go_num, HN2.out, HFR.out.drewN _⟩
        case measure => have := HLT.out; simp [intOf]; omega
    · obtain rfl : k = l.length := by omega
      have HE : Hid (atL (idsO l) (a, b) = -1) := atL_none fun x hx => hno x (by rw [List.take_of_length_le (by rw [idsO_length]; omega)]; exact hx)
      clear hno
      go_wp2
      go_ret
      exact ⟨by rw [HE.out]; rfl, HF0.out.trans hfr⟩

/-- those whose Id wasn't there ahead -/
def ownT (l : List Od) : Nat → List Od
  | 0 => []
  | k + 1 => ownT l k ++ match l[k]? with | some o => (if atL (idsO l) o.id = (k : Int) then [o] else []) | none => []
def ownO (l : List Od) : List Od := ownT l l.length
theorem mem_ownT {l : List Od} : ∀ {k : Nat} {o : Od}, o ∈ ownT l k → ∃ i, i < k ∧ l[i]? = some o ∧ atL (idsO l) o.id = (i : Int)
  | 0, o, h => by cases h
  | k + 1, o, h => by
    unfold ownT at h
    rcases List.mem_append.1 h with h | h
    · obtain ⟨i, h1, h2⟩ := mem_ownT h
      exact ⟨i, by omega, h2⟩
    · cases hk : l[k]? with
      | none => rw [hk] at h; cases h
      | some x =>
        rw [hk] at h
        simp only at h
        split at h
        · rename_i he
          rw [List.mem_singleton] at h
          subst h
          exact ⟨k, by omega, hk, he⟩
        · cases h
theorem ownT_rt (l : List Od) : ∀ k, Rt Od.id (ownT l k)
  | 0 => Rt.nil
  | k + 1 => by
    have ih := ownT_rt l k
    unfold ownT
    cases hk : l[k]? with
    | none => simpa using ih
    | some x =>
      simp only
      split
      · rename_i he
        unfold Rt at ih ⊢
        rw [List.map_append, List.nodup_append]
        refine ⟨ih, by simp, fun a ha b hb e => ?_⟩
        simp only [List.map_cons, List.map_nil, List.mem_singleton] at hb
        obtain ⟨o, ho, rfl⟩ := List.mem_map.1 ha
        obtain ⟨i, h1, _, h2⟩ := mem_ownT ho
        rw [e, hb, he] at h2
        omega
      · simpa using ih
theorem own_rt (l : List Od) : Rt Od.id (ownO l) := ownT_rt l _
theorem mem_own {l : List Od} {o : Od} (h : o ∈ ownO l) : o ∈ l := by
  obtain ⟨i, _, h, _⟩ := mem_ownT h
  exact List.mem_of_getElem? h
theorem ownT_len (l : List Od) : ∀ k, (ownT l k).length ≤ k
  | 0 => Nat.le_refl _
  | k + 1 => by
    have ih := ownT_len l k
    unfold ownT
    rw [List.length_append]
    cases hk : l[k]? with
    | none => simp; omega
    | some x => simp only; split <;> simp <;> omega
def OwRel (w0 w : World) (l : List Od) (lv iv : Value) (wr : World) : Prop := ∃ k : Nat, k ≤ l.length ∧ iv = .int .i64 k ∧ OwnO w0 wr lv (ownT l k) ∧ Fr No w wr ∧ Newer w.heap.size none lv.ownBlock
def Tr : Nat → Prop := fun _ => True
theorem OwnN.ls {B : Nat} {w : World} {A : Option Addr} {c : Nat} {l : List Od} (h : OwnN B w (.slice A l.length c) l) (hn : l.length ≤ 1000000) (hs : ∀ o ∈ l, o.legs.length ≤ 100000) : Ls w Tr A c l := by
  obtain ⟨A2, c2, e, h1, h2⟩ := h.form
  injection e with e1 e2 e3
  subst e1 e3
  exact ⟨h.ods.more fun _ _ => trivial, hn, h1, hs⟩
/-- handed back: a list that is alike -/
def MxRet (w : World) (l : List Od) (e : Ending) (w' : World) : Prop := ∃ A c m, e = .returned (.slice A m.length c) ∧ Ls w' Tr A c m ∧ m.length = l.length ∧ Ak Od.id clashB l m ∧ Fr No w w' ∧ c ≤ maxLen
def MxRel (w : World) (l : List Od) (n : Nat) (lv iv : Value) (wr : World) : Prop := ∃ k A c m, lv = .slice A (m : List Od).length c ∧ iv = .int .i64 (k : Nat) ∧ k ≤ n ∧ Ls wr Tr A c m ∧ m.length = l.length ∧ Ak Od.id clashB l m ∧ Fr No w wr ∧ c ≤ maxLen
theorem len_succ {n : Nat} (h : n ≤ 1000000) : wrap64 ((n : Int) + 1) = (n : Int) + 1 ∧ IntKind.u64.wrap ((n : Int) + 1) = (n : Int) + 1 ∧ ¬ ((n : Int) + 1 = 0) := by
  refine ⟨IntWalk.wrap64_in _ ⟨by omega, by omega⟩, ?_, by omega⟩
  rw [IntKind.wrap_u64]
  omega
theorem j_in {j n : Nat} (h : j < n + 1) (hn : n ≤ 1000000) : In64 (j : Int) := by
  unfold In64
  omega
theorem swapI_nat {l m : List Od} {i : Int} (h : swapI l i = some m) : ∃ k, swapO l k = some m := by
  unfold swapI at h
  split at h
  · exact ⟨_, h⟩
  · cases h
theorem swap_mem {l m : List Od} {i : Nat} (h : swapO l i = some m) : m.length = l.length ∧ ∀ o ∈ m, o ∈ l := by
  obtain ⟨p, x, y, r, rfl, rfl, -, -⟩ := swap_form h
  refine ⟨by simp, fun o ho => ?_⟩
  simp only [List.mem_append, List.mem_cons] at ho ⊢
  rcases ho with ho | ho | ho | ho
  · exact .inl ho
  · exact .inr (.inr (.inl ho))
  · exact .inr (.inl ho)
  · exact .inr (.inr (.inr ho))
theorem OdsS.up {w0 w : World} {F : Nat → Prop} {A : Option Addr} {l : List Od} (h : OdsS w0 w F A l) (hf : Fr No w0 w) : OdsS w w F A l := by
  obtain ⟨cells, hr, hE⟩ := h
  exact ⟨cells, hr, each_imp hE fun cs o ⟨v, h1, h2, h3, h4⟩ => ⟨v, h1, h2, h3, (h4.no hf).more fun k hk => Nat.lt_of_lt_of_le hk hf.size⟩⟩
theorem few_s {l : List Od} {n : Nat} : ∀ o ∈ fewO l n, o.legs.length ≤ 100000 := fun o ho => by
  unfold fewO at ho
  obtain ⟨x, _, rfl⟩ := List.mem_map.1 ho
  unfold Od.few8
  simp only [List.length_take]
  omega
/-- the list that a law speaks of -/
def lawL (l : List Od) (n : Nat) : List Od := ownO (fewO l n)
theorem lawL_len (l : List Od) (n : Nat) : (lawL l n).length ≤ n := by
  have h1 := ownT_len (fewO l n) (fewO l n).length
  have h2 := fewO_length l n
  show (ownO (fewO l n)).length ≤ n
  unfold ownO
  omega
theorem lawL_rt (l : List Od) (n : Nat) : Rt Od.id (lawL l n) := own_rt _
theorem lawL_s (l : List Od) (n : Nat) : ∀ o ∈ lawL l n, o.legs.length ≤ 100000 := fun o ho => few_s o (mem_own ho)
theorem lawL_ls {w0 w : World} {F : Nat → Prop} {A : Option Addr} {c n : Nat} {l : List Od} (h : OdsS w0 w F A (lawL l n)) (hf : Fr No w0 w) (hc : (lawL l n).length ≤ c) (hn : n ≤ 1000) : Ls w Tr A c (lawL l n) :=
  ⟨(h.up hf).more fun _ _ => trivial, by have := lawL_len l n; omega, hc, lawL_s l n⟩
end Go.Proofs.YtlanhclgbkhdlaaGreat
