/- What the laws on clashes are made of: the first orders of a list, those of their own Ids. Where an Id stands first; orders of their own Ids: the walks. The document's Right and Begins tell the same as the program's: plain mathematics. The document's Right, and those of b that are not in a. The document's own Same of orders. The accounts that an order names rise, each once: the walk. The document's own Name. -/
import Derived.Test.YtnphncemghfkbaaQ03
import Derived.Test.YtnphncemghfkbaaOdI
import Derived.Test.YtnphncemghfkbaaOrdB
import Derived.Deep.RegionHeld3
import Derived.Deep.DrawnRows
import Derived.Test.YtnphncemghfkbaaOrdL
import Derived.Sort.Walk0
import Derived.Test.YtnphncemghfkbaaChart
import Derived.Deep.DeepCutAuto
import Derived.Deep.QuietTactic
import Derived.BigQuiet
namespace Go.Proofs.Ytnphncemghfkbaa
open Go.RowKit Go.My Go.Maps Go.WideMaps
set_option linter.unusedSimpArgs false
set_option linter.unusedVariables false
attribute [local go_sem ↓] Go.wp_at_zero Go.wp_at_succ

def Od.few8 (o : Od) : Od := { o with legs := o.legs.take 8 }
def fewO (l : List Od) (n : Nat) : List Od := (l.take n).map Od.few8
theorem fewO_length (l : List Od) (n : Nat) : (fewO l n).length = min n l.length := by unfold fewO; rw [List.length_map, List.length_take]
theorem fewO_succ (l : List Od) (k : Nat) (hk : k < l.length) : fewO l (k + 1) = fewO l k ++ [l[k].few8] := by unfold fewO; rw [List.take_succ_eq_append_getElem hk, List.map_append]; rfl
/-- a row of the call's own that holds orders -/
def OwnO (w0 w : World) (v : Value) (l : List Od) : Prop := ∃ cells, Own w 30 10 v l.length cells ∧ Each (OdR w0) 10 cells l
theorem OwnO.nil (w0 w : World) : OwnO w0 w (.slice none 0 0) [] := ⟨[], Own.nil _ _ _, Each.nilO w0⟩
theorem OwnO.ods {w0 w : World} {A : Option Addr} {m c : Nat} {l : List Od} (h : OwnO w0 w (.slice A m c) l) : OdsS w0 w (fun k => (Value.slice A m c).ownBlock = some k) A l := by
  obtain ⟨cells, ho, hE⟩ := h
  exact ⟨cells, ho.rd, hE⟩
theorem OwnO.form {w0 w : World} {v : Value} {l : List Od} (h : OwnO w0 w v l) : ∃ A c, v = .slice A l.length c ∧ l.length ≤ c ∧ c ≤ maxLen := by
  obtain ⟨cells, ho, _⟩ := h
  exact ho.form
/-- what few hands back -/
theorem OwnO.ret {w0 w w' : World} {A : Option Addr} {c : Nat} {l : List Od} (h : OwnO w0 w' (.slice A l.length c) l) (hf : Fr No w w') (hn : Newer w.heap.size none (Value.slice A l.length c).ownBlock) : OdsS w0 w' (fun k => w.heap.size ≤ k) A l :=
  h.ods.more fun k hk => newer_none hn k hk
def FeRel (w0 w : World) (l : List Od) (n : Nat) (lv iv : Value) (wr : World) : Prop :=
  ∃ k : Nat, k ≤ l.length ∧ k ≤ n ∧ iv = .int .i64 k ∧ OwnO w0 wr lv (fewO l k) ∧ Fr No w wr ∧ Newer w.heap.size none lv.ownBlock
def FewRet (w0 w : World) (l : List Od) (e : Ending) (w' : World) : Prop := ∃ A c, e = .returned (.slice A l.length c) ∧ OdsS w0 w' (fun k => w.heap.size ≤ k) A l ∧ l.length ≤ c ∧ c ≤ maxLen ∧ Fr No w w'
set_option maxRecDepth 100000 in
set_option maxHeartbeats 4000000 in
theorem few10_any (w0 w : World) (F : Nat → Prop) (A : Option Addr) (c : Nat) (l : List Od) (n : Nat) (hl : OdsS w0 w F A l) (hlc : l.length ≤ c) (hcm : c ≤ maxLen) (hn : n ≤ 1000) :
    Calls Try.prog 5 #[.slice A l.length c, .int .i64 (n : Int)] w (FewRet w0 w (fewO l n)) := by
  have HL := Lib.hid hl
  have HCM := Lib.hid hcm
  have hlm : l.length ≤ 9223372036854775807 := by unfold maxLen at hcm; omega
  clear hl hcm
  go_enter Try.func5, Try.ntmps5
  go_wp2
  go_loopw [5, 6] (fun lv iv wr => FeRel w0 w l n lv iv wr) (fun _ iv _ => l.length - (intOf iv).toNat)
  case atStart => exact ⟨0, Nat.zero_le _, Nat.zero_le _, rfl, OwnO.nil _ _, Fr.refl _ _, .inl rfl⟩
  case round =>
    obtain ⟨k, hk, hkl, rfl, hown, hfr, hnew⟩ := hrel
    have hk62 : (k : Int) ≤ 9223372036854775807 := by omega
    by_cases hlt : k < l.length
    · by_cases hkn : k < n
      · obtain ⟨ad, v, rfl, _, hok, hg, hL, q0, q1, q2, q3, q4, q5, q6, q7, q8, q9⟩ := (HL.out.fr hfr (fun _ _ _ h => h)).at_ k hlt
        obtain ⟨B, d, rfl, hd1, hd2⟩ := hL.form
        have E : Hid (fewO l (k + 1) = fewO l k ++ [l[k].few8]) := fewO_succ l k hlt
        have HO : Hid (OdR w0 (l[k].few8.cs (.slice B (min l[k].legs.length 8) d)) l[k].few8) := ⟨_, rfl, hok, fun g h => hg g (List.mem_of_mem_take h), hL.take 8⟩
        have hlk : (fewO l k).length = k := by rw [fewO_length]; omega
        obtain ⟨cells, ho, hE⟩ := hown
        have HE := Lib.hid hE
        have hX : Hid ((fewO l k).length + 1 ≤ maxLen ∧ ((fewO l k).length + 1) * 120 ≤ 140737488355328) := by
          rw [hlk]
          refine ⟨?_, ?_⟩ <;> (try simp only [maxLen]) <;> omega
        have HLK := Lib.hid hlk
        have hcs : Hid (l[k].few8.cs (.slice B (min l[k].legs.length 8) d) = [.int .i64 l[k].cl, .int .i64 l[k].sq, .int .i64 l[k].kd, .string l[k].acct, .string l[k].peer, .int .i64 l[k].sum, .slice B (min l[k].legs.length 8) d, .int .i64 l[k].per, .int .i64 l[k].hold, .string l[k].note]) := rfl
        generalize l[k].few8.cs (.slice B (min l[k].legs.length 8) d) = CS at *
        generalize l[k].few8 = of_ at *
        clear hok hg hL hE hlk hk62 hk
        generalize l[k].legs = L at *
        generalize l[k].cl = cl at *
        generalize l[k].sq = sq at *
        generalize l[k].kd = kd at *
        generalize l[k].acct = acct at *
        generalize l[k].peer = peer at *
        generalize l[k].sum = sum at *
        generalize l[k].per = per at *
        generalize l[k].hold = hold at *
        generalize l[k].note = note at *
        have hmn : (min (L.length : Int) 8).toNat = min L.length 8 := by omega
        have hmx : 0 ≤ min (L.length : Int) 8 ∧ min (L.length : Int) 8 ≤ (d : Int) := ⟨by omega, by omega⟩
        have hkni : (k : Int) < (n : Int) := by omega
        go_wp2_with (at_builtin; refine wpList_app _ rfl (.tmp 31) (.tmp 33) 22 22 rfl elO ((ho.alloc _).alloc _) rfl (Src.of_new (cs := #[.int .i64 cl, .int .i64 sq, .int .i64 kd, .string acct, .string peer, .int .i64 sum, .slice B (min L.length 8) d, .int .i64 per, .int .i64 hold, .string note]) (t := 30) (wr.heap.size + 1) (by have h := heap_alloc_new (wr.alloc (.cells #[.int .i64 cl, .int .i64 sq, .int .i64 kd, .string acct, .string peer, .int .i64 sum, .slice B (min L.length 8) d, .int .i64 per, .int .i64 hold, .string note] 30)) (.cells #[.int .i64 cl, .int .i64 sq, .int .i64 kd, .string acct, .string peer, .int .i64 sum, .slice B (min L.length 8) d, .int .i64 per, .int .i64 hold, .string note] 30); rw [World.size_alloc] at h; exact h) Try.underlying22 rfl (by simp [Value.oneCell'])) rfl hX.out.1 hX.out.2 ?_; intro v1 w3 hown3 hfr3 hnew3)
        go_roundw
        case rel =>
          refine ⟨k + 1, by omega, by omega, by go_num, ?_, ?_, ?_⟩
          · rw [E.out]
            have hq := hcs.out
            subst hq
            exact ⟨_, by rw [List.length_append]; exact hown3, Each.snocO HE.out rfl HO.out⟩
          · exact fr_no ((hfr.alloc _).alloc _) hnew hfr3
          · exact hnew.trans (Newer.of hnew3) (by have := hfr.size; simp; omega)
        case measure => simp [intOf]; omega
      · have hkni : ¬ (k : Int) < (n : Int) := by omega
        have hkn' : k = n := by omega
        subst hkn'
        obtain ⟨A1, c1, rfl, hl1, hm1⟩ := OwnO.form hown
        have HR := Lib.hid (OwnO.ret hown hfr hnew)
        have HFR := Lib.hid hfr
        clear hown hfr hnew
        go_wp2
        go_ret
        exact ⟨_, _, rfl, HR.out, hl1, hm1, HFR.out⟩
    · obtain rfl : k = l.length := by omega
      have he : fewO l l.length = fewO l n := by
        unfold fewO
        rw [List.take_length, List.take_of_length_le hkl]
      rw [he] at hown
      obtain ⟨A1, c1, rfl, hl1, hm1⟩ := OwnO.form hown
      have HR := Lib.hid (OwnO.ret hown hfr hnew)
      have HFR := Lib.hid hfr
      clear hown hfr hnew he
      by_cases hkn : l.length < n
      · have hkni : (l.length : Int) < (n : Int) := by omega
        go_wp2
        go_ret
        exact ⟨_, _, rfl, HR.out, hl1, hm1, HFR.out⟩
      · have hkni : ¬ (l.length : Int) < (n : Int) := by omega
        go_wp2
        go_ret
        exact ⟨_, _, rfl, HR.out, hl1, hm1, HFR.out⟩
end Go.Proofs.Ytnphncemghfkbaa

namespace Go.Proofs.Ytnphncemghfkbaa
open Go.RowKit Go.My Go.Maps Go.WideMaps
set_option linter.unusedSimpArgs false
set_option linter.unusedVariables false
attribute [local go_sem ↓] Go.wp_at_zero Go.wp_at_succ

/-- where an Id stands first -/
def atL (L : List Idk) (k : Idk) : Int := match L.findIdx? (fun x => decide (x = k)) with | some i => (i : Int) | none => -1
theorem atL_at {L : List Idk} {k : Idk} {i : Nat} (hi : i < L.length) (h : L[i] = k) (hn : ∀ x ∈ L.take i, x ≠ k) : atL L k = i := by
  unfold atL
  rw [List.findIdx?_eq_some_iff_getElem.2 ⟨hi, decide_eq_true h, fun j hj => by
    have := hn L[j] (List.mem_take_iff_getElem.2 ⟨j, by omega, rfl⟩)
    simp [this]⟩]
theorem atL_none {L : List Idk} {k : Idk} (hn : ∀ x ∈ L, x ≠ k) : atL L k = -1 := by
  unfold atL
  rw [List.findIdx?_eq_none_iff.2 fun x hx => decide_eq_false (hn x hx)]
theorem atL_neg {L : List Idk} {k : Idk} : atL L k < 0 ↔ k ∉ L := by
  unfold atL
  cases h : L.findIdx? (fun x => decide (x = k)) with
  | none =>
    rw [List.findIdx?_eq_none_iff] at h
    simp only
    exact ⟨fun _ hk => by have := h k hk; simp at this, fun _ => by omega⟩
  | some i =>
    obtain ⟨hi, he, _⟩ := List.findIdx?_eq_some_iff_getElem.1 h
    simp only
    exact ⟨fun h => by omega, fun hk => absurd (by rw [← of_decide_eq_true he]; exact List.getElem_mem hi) hk⟩
theorem atL_some {L : List Idk} {k : Idk} {i : Nat} (h : atL L k = i) : L[i]? = some k := by
  unfold atL at h
  cases hf : L.findIdx? (fun x => decide (x = k)) with
  | none => rw [hf] at h; simp only at h; omega
  | some j =>
    rw [hf] at h
    obtain ⟨hi, he, _⟩ := List.findIdx?_eq_some_iff_getElem.1 hf
    have : j = i := by simp only at h; omega
    subst this
    rw [List.getElem?_eq_getElem hi, of_decide_eq_true he]
theorem idsO_getE {l : List Od} {i : Nat} (hi : i < l.length) (h2 : i < (idsO l).length) : (idsO l)[i] = l[i].id := by
  have h := idsO_get l i
  rw [List.getElem?_eq_getElem h2, List.getElem?_eq_getElem hi] at h
  simpa using h
theorem atL_rt {l : List Od} (h : Rt Od.id l) {i : Nat} (hi : i < l.length) : atL (idsO l) l[i].id = i := by
  have hil : i < (idsO l).length := by rw [idsO_length]; exact hi
  have hg : (idsO l)[i] = l[i].id := idsO_getE hi hil
  refine atL_at hil hg fun x hx e => ?_
  obtain ⟨j, hj, rfl⟩ := List.mem_take_iff_getElem.1 hx
  have h1 : j < (idsO l).length := by omega
  have := nodup_inj (L := idsO l) h h1 hil (by rw [hg]; exact e)
  omega
def At10Rel (w : World) (l : List Od) (k : Idk) (iv : Value) (wr : World) : Prop := ∃ n : Nat, n ≤ l.length ∧ iv = .int .i64 n ∧ (∀ x ∈ (idsO l).take n, x ≠ k) ∧ Fr No w wr
set_option maxRecDepth 100000 in
set_option maxHeartbeats 1000000 in
theorem at10_any (w0 w : World) (F : Nat → Prop) (A : Option Addr) (c : Nat) (l : List Od) (a b : Int) (hl : OdsS w0 w F A l) (hn : l.length ≤ 1000000) :
    Calls Try.prog 30 #[.slice A l.length c, .agg #[.int .i64 a, .int .i64 b]] w fun e w' => e = .returned (.int .i64 (atL (idsO l) (a, b))) ∧ Fr No w w' := by
  have HL := Lib.hid hl
  have hbx := Blk.new w 27 #[.int .i64 a, .int .i64 b]
  have HBX := Lib.hid hbx
  have HF0 : Hid (Fr No w (w.alloc (.cells #[.int .i64 a, .int .i64 b] 27))) := (Fr.refl _ _).alloc _
  clear hl hbx
  go_enter Try.func30, Try.ntmps30
  go_upto_region 1 with (fail)
  generalize w.alloc (.cells #[.int .i64 a, .int .i64 b] 27) = w1 at *
  go_wp2
  go_loopw [5] (fun iv wr => At10Rel w1 l (a, b) iv wr) (fun iv _ => l.length - (intOf iv).toNat)
  case atStart => exact ⟨0, Nat.zero_le _, rfl, fun x hx => by simp at hx, Fr.refl _ _⟩
  case round =>
    obtain ⟨k, hk, rfl, hno, hfr⟩ := hrel
    have hk62 : (k : Int) ≤ 1000000 := by omega
    by_cases hlt : k < l.length
    · obtain ⟨ad, v, rfl, _, hok, hg, hL, q0, q1, q2, q3, q4, q5, q6, q7, q8, q9⟩ := (HL.out.fr (HF0.out.trans hfr) (fun _ _ _ h => h)).at_ k hlt
      have hbx := HBX.out.fr hfr (fun h => h)
      have x0 := hbx.cell 0
      have x1 := hbx.cell 1
      simp only [List.getElem?_toArray, List.getElem?_cons_zero, List.getElem?_cons_succ] at x0 x1
      have hil : k < (idsO l).length := by rw [idsO_length]; exact hlt
      have hgi : (idsO l)[k] = (l[k].cl, l[k].sq) := idsO_getE hlt hil
      have HY : Hid ((l[k].cl, l[k].sq) = (a, b) → atL (idsO l) (a, b) = k) := fun e => atL_at hil (hgi.trans e) hno
      have HN : Hid ((l[k].cl, l[k].sq) ≠ (a, b) → ∀ x ∈ (idsO l).take (k + 1), x ≠ (a, b)) := fun e x hx => by
        rw [List.take_succ_eq_append_getElem hil, List.mem_append, List.mem_singleton] at hx
        rcases hx with hx | hx
        · exact hno x hx
        · rw [hx, hgi]; exact e
      have HFR := Lib.hid hfr
      have HLT : Hid (k + 1 ≤ l.length) := hlt
      generalize l[k].cl = cl at *
      generalize l[k].sq = sq at *
      clear q2 q3 q4 q5 q6 q7 q8 q9 hok hg hL hbx hgi hil hno hfr
      by_cases he : cl = a ∧ sq = b
      · obtain ⟨rfl, rfl⟩ := he
        have HY2 := Lib.hid (HY.out rfl)
        clear HY HN
        go_upto_region 4 with (fail)
        go_quiet (fail)
        go_wp2
        go_ret
        exact ⟨by rw [HY2.out]; rfl, (HF0.out.trans HFR.out).drewN _⟩
      · have HN2 := Lib.hid (HN.out (fun e => he ⟨congrArg Prod.fst e, congrArg Prod.snd e⟩))
        have hne := fun W => eq_id cl sq a b W he
        clear HY HN
        go_upto_region 4 with (fail)
        go_quiet (fail)
        go_wp2
        go_roundw
        case rel => exact ⟨k + 1, HLT.out, by go_num, HN2.out, HFR.out.drewN _⟩
        case measure => have := HLT.out; simp [intOf]; omega
    · obtain rfl : k = l.length := by omega
      have HE : Hid (atL (idsO l) (a, b) = -1) := atL_none fun x hx => hno x (by rw [List.take_of_length_le (by rw [idsO_length]; omega)]; exact hx)
      clear hno
      go_wp2
      go_ret
      exact ⟨by rw [HE.out]; rfl, HF0.out.trans hfr⟩

/-- those whose Id wasn't there ahead -/
def ownT (l : List Od) : Nat → List Od
  | 0 => []
  | k + 1 => ownT l k ++ match l[k]? with | some o => (if atL (idsO l) o.id = (k : Int) then [o] else []) | none => []
def ownO (l : List Od) : List Od := ownT l l.length
theorem mem_ownT {l : List Od} : ∀ {k : Nat} {o : Od}, o ∈ ownT l k → ∃ i, i < k ∧ l[i]? = some o ∧ atL (idsO l) o.id = (i : Int)
  | 0, o, h => by cases h
  | k + 1, o, h => by
    unfold ownT at h
    rcases List.mem_append.1 h with h | h
    · obtain ⟨i, h1, h2⟩ := mem_ownT h
      exact ⟨i, by omega, h2⟩
    · cases hk : l[k]? with
      | none => rw [hk] at h; cases h
      | some x =>
        rw [hk] at h
        simp only at h
        split at h
        · rename_i he
          rw [List.mem_singleton] at h
          subst h
          exact ⟨k, by omega, hk, he⟩
        · cases h
theorem ownT_rt (l : List Od) : ∀ k, Rt Od.id (ownT l k)
  | 0 => Rt.nil
  | k + 1 => by
    have ih := ownT_rt l k
    unfold ownT
    cases hk : l[k]? with
    | none => simpa using ih
    | some x =>
      simp only
      split
      · rename_i he
        unfold Rt at ih ⊢
        rw [List.map_append, List.nodup_append]
        refine ⟨ih, by simp, fun a ha b hb e => ?_⟩
        simp only [List.map_cons, List.map_nil, List.mem_singleton] at hb
        obtain ⟨o, ho, rfl⟩ := List.mem_map.1 ha
        obtain ⟨i, h1, _, h2⟩ := mem_ownT ho
        rw [e, hb, he] at h2
        omega
      · simpa using ih
theorem own_rt (l : List Od) : Rt Od.id (ownO l) := ownT_rt l _
theorem mem_own {l : List Od} {o : Od} (h : o ∈ ownO l) : o ∈ l := by
  obtain ⟨i, _, h, _⟩ := mem_ownT h
  exact List.mem_of_getElem? h
theorem ownT_len (l : List Od) : ∀ k, (ownT l k).length ≤ k
  | 0 => Nat.le_refl _
  | k + 1 => by
    have ih := ownT_len l k
    unfold ownT
    rw [List.length_append]
    cases hk : l[k]? with
    | none => simp; omega
    | some x => simp only; split <;> simp <;> omega
def OwRel (w0 w : World) (l : List Od) (lv iv : Value) (wr : World) : Prop := ∃ k : Nat, k ≤ l.length ∧ iv = .int .i64 k ∧ OwnO w0 wr lv (ownT l k) ∧ Fr No w wr ∧ Newer w.heap.size none lv.ownBlock
end Go.Proofs.Ytnphncemghfkbaa

namespace Go.Proofs.Ytnphncemghfkbaa
open Go.RowKit Go.My
set_option linter.unusedSimpArgs false
set_option linter.unusedVariables false

theorem right_at {l : List Od} : rightL l = true ↔ ∀ i (h : i < l.length), atL (idsO l) l[i].id = i := by
  rw [rightL_iff]
  constructor
  · intro h i hi
    exact atL_rt h hi
  · intro h
    unfold Rt List.Nodup
    rw [List.pairwise_iff_getElem]
    intro i j hi hj hij e
    rw [List.length_map] at hi hj
    rw [List.getElem_map, List.getElem_map] at e
    have h1 := h i hi
    have h2 := h j hj
    rw [e, h2] at h1
    omega
/-- what hinders o, at i of a: x, ahead of it in b, clashes with it, and is not in a, or behind o -/
def badR (a : List Od) (i : Nat) (o x : Od) : Bool := clashB x o && (decide (atL (idsO a) x.id < 0) || decide ((i : Int) < atL (idsO a) x.id))
def rowR (a b : List Od) (i : Nat) (o : Od) : Bool := decide (0 ≤ atL (idsO b) o.id) && (b[(atL (idsO b) o.id).toNat]?).any (fun x => eqO o x) && !((b.take (atL (idsO b) o.id).toNat).any (badR a i o))
def begR (a b : List Od) : Bool := (List.range a.length).all fun i => (a[i]?).all fun o => rowR a b i o
def refBegB (a b : List Od) : Bool := rightL a && rightL b && begR a b
theorem atL_mem {l : List Od} (h : Rt Od.id l) {o : Od} (ho : o ∈ l) : ∃ i, ∃ hi : i < l.length, l[i] = o ∧ atL (idsO l) o.id = i := by
  obtain ⟨i, hi, rfl⟩ := List.mem_iff_getElem.1 ho
  exact ⟨i, hi, rfl, atL_rt h hi⟩
theorem refBegB_eq (a b : List Od) : refBegB a b = beginsB a b := by
  rw [Bool.eq_iff_iff, beginsB_iff]
  unfold refBegB
  rw [Bool.and_eq_true, Bool.and_eq_true, rightL_iff, rightL_iff]
  have key : ∀ (ha : Rt Od.id a) (hb : Rt Od.id b), begR a b = true ↔ ∀ i (hi : i < a.length), rowR a b i a[i] = true := fun ha hb => by
    unfold begR
    rw [List.all_eq_true]
    constructor
    · intro h i hi
      have := h i (List.mem_range.2 hi)
      rw [List.getElem?_eq_getElem hi] at this
      simpa using this
    · intro h i hi
      have hi := List.mem_range.1 hi
      rw [List.getElem?_eq_getElem hi]
      simpa using h i hi
  constructor
  · rintro ⟨⟨ha, hb⟩, h⟩
    rw [key ha hb] at h
    have hin : ∀ o ∈ a, o ∈ b := by
      intro o ho
      obtain ⟨i, hi, rfl⟩ := List.mem_iff_getElem.1 ho
      have := h i hi
      unfold rowR at this
      rw [Bool.and_eq_true, Bool.and_eq_true, decide_eq_true_eq, Option.any_eq_true] at this
      obtain ⟨x, hx, he⟩ := this.1.2
      rw [eqO_iff] at he
      rw [he]
      exact List.mem_of_getElem? hx
    refine ⟨ha, hb, hin, fun x o hbx hc ho => ?_⟩
    obtain ⟨i, hi, hio⟩ := List.mem_iff_getElem.1 ho
    have hr := h i hi
    rw [hio] at hr
    unfold rowR at hr
    rw [Bool.and_eq_true, Bool.and_eq_true, decide_eq_true_eq] at hr
    obtain ⟨k, hk, hko, hat⟩ := atL_mem hb (hin o ho)
    rw [hat, Int.toNat_natCast] at hr
    obtain ⟨j, hj, hjo, hxt⟩ := (bef_iff_get x o b).1 hbx
    have hjk : j = k := by
      have := nodup_inj hb.nodup hj hk (hjo.trans hko.symm)
      exact this
    subst hjk
    have hany : ((b.take j).any (badR a i o)) = false := by simpa using hr.2
    rw [List.any_eq_false] at hany
    have hx := hany x hxt
    unfold badR at hx
    rw [hc, Bool.true_and, Bool.or_eq_true, decide_eq_true_eq, decide_eq_true_eq] at hx
    have hneg : ¬ atL (idsO a) x.id < 0 := fun k => hx (.inl k)
    have hle : ¬ (i : Int) < atL (idsO a) x.id := fun k => hx (.inr k)
    have hxa : x.id ∈ idsO a := Classical.byContradiction fun k => hneg (atL_neg.2 k)
    obtain ⟨y, hya, hyx⟩ := List.mem_map.1 hxa
    have hyb := hin y hya
    obtain rfl : y = x := hb.inj hyb (bef_mem hbx).1 hyx
    obtain ⟨n, hn, hny, hatn⟩ := atL_mem ha hya
    have hne := bef_ne hb.nodup hbx
    rw [hatn] at hle
    refine (bef_iff_get y o a).2 ⟨i, hi, hio, List.mem_take_iff_getElem.2 ⟨n, ?_, hny⟩⟩
    have : n ≠ i := fun e => by subst e; exact hne (hny.symm.trans hio)
    omega
  · rintro ⟨ha, hb, hin, hB⟩
    refine ⟨⟨ha, hb⟩, ?_⟩
    rw [key ha hb]
    intro i hi
    have ho := hin a[i] (List.getElem_mem hi)
    obtain ⟨k, hk, hko, hat⟩ := atL_mem hb ho
    unfold rowR
    rw [Bool.and_eq_true, Bool.and_eq_true, decide_eq_true_eq, hat, Int.toNat_natCast]
    refine ⟨⟨by omega, by rw [List.getElem?_eq_getElem hk, hko, Option.any_some, eqO_iff]⟩, ?_⟩
    rw [Bool.not_eq_true', List.any_eq_false]
    intro x hx hbad
    unfold badR at hbad
    rw [Bool.and_eq_true, Bool.or_eq_true, decide_eq_true_eq, decide_eq_true_eq] at hbad
    obtain ⟨hc, hbad⟩ := hbad
    have hbx : bef x a[i] b := (bef_iff_get x a[i] b).2 ⟨k, hk, hko, hx⟩
    have hba := hB x a[i] hbx hc (List.getElem_mem hi)
    obtain ⟨n, hn, hnx, hatn⟩ := atL_mem ha (bef_mem hba).1
    obtain ⟨i', hi', hie, hxt⟩ := (bef_iff_get x a[i] a).1 hba
    have hii := nodup_inj ha.nodup hi' hi hie
    subst hii
    obtain ⟨m, hm, hmx⟩ := List.mem_take_iff_getElem.1 hxt
    have hnm := nodup_inj ha.nodup (i := n) (j := m) hn (by omega) (hnx.trans hmx.symm)
    rw [hatn] at hbad
    omega
/-- what the document's Meet tells -/
theorem refMeet_eq (a b : List Od) : (refBegB a (a ++ others Od.id a b) && refBegB b (a ++ others Od.id a b)) = meetB a b := by
  rw [refBegB_eq, refBegB_eq]; rfl
end Go.Proofs.Ytnphncemghfkbaa

namespace Go.Proofs.Ytnphncemghfkbaa
open Go.RowKit Go.My Go.Maps Go.WideMaps
set_option linter.unusedSimpArgs false
set_option linter.unusedVariables false
attribute [local go_sem ↓] Go.wp_at_zero Go.wp_at_succ

def RgRel (w : World) (l : List Od) (iv : Value) (wr : World) : Prop := ∃ k : Nat, k ≤ l.length ∧ iv = .int .i64 k ∧ (∀ i (h : i < l.length), i < k → atL (idsO l) l[i].id = i) ∧ Fr No w wr
set_option maxRecDepth 100000 in
set_option maxHeartbeats 1000000 in
theorem refright10_any (w0 w : World) (F : Nat → Prop) (A : Option Addr) (c : Nat) (l : List Od) (hl : OdsS w0 w F A l) (hn : l.length ≤ 1000000) :
    Calls Try.prog 11 #[.slice A l.length c] w fun e w' => e = .returned (.bool (rightL l)) ∧ Fr No w w' := by
  have HL := Lib.hid hl
  have HAT : Hid (∀ W a b, Fr No w W → Calls Try.prog 30 #[.slice A l.length c, .agg #[.int .i64 a, .int .i64 b]] W fun e w' => e = .returned (.int .i64 (atL (idsO l) (a, b))) ∧ Fr No W w') := fun W a b hW => at10_any w0 W F A c l a b (hl.fr hW (fun _ _ _ h => h)) hn
  clear hl
  go_enter Try.func11, Try.ntmps11
  go_wp2
  go_loopw [3] (fun iv wr => RgRel w l iv wr) (fun iv _ => l.length - (intOf iv).toNat)
  case atStart => exact ⟨0, Nat.zero_le _, rfl, fun i _ h => absurd h (Nat.not_lt_zero _), Fr.refl _ _⟩
  case round =>
    obtain ⟨k, hk, rfl, hall, hfr⟩ := hrel
    have hk62 : (k : Int) ≤ 1000000 := by omega
    by_cases hlt : k < l.length
    · obtain ⟨ad, v, rfl, _, hok, hg, hL, q0, q1, q2, q3, q4, q5, q6, q7, q8, q9⟩ := (HL.out.fr hfr (fun _ _ _ h => h)).at_ k hlt
      have HFR := Lib.hid hfr
      have HLT : Hid (k + 1 ≤ l.length) := hlt
      have HY : Hid (atL (idsO l) (l[k].cl, l[k].sq) = (k : Int) → ∀ i (h : i < l.length), i < k + 1 → atL (idsO l) l[i].id = i) := fun e i h hi => by
        by_cases hik : i = k
        · subst hik; exact e
        · exact hall i h (by omega)
      have HN : Hid (atL (idsO l) (l[k].cl, l[k].sq) ≠ (k : Int) → rightL l = false) := fun e => by
        cases hr : rightL l with
        | false => rfl
        | true => exact absurd (right_at.1 hr k hlt) e
      have HAK := Lib.hid (HAT.out wr l[k].cl l[k].sq hfr)
      generalize l[k].cl = cl at *
      generalize l[k].sq = sq at *
      clear q2 q3 q4 q5 q6 q7 q8 q9 hok hg hL hall hfr
      by_cases he : atL (idsO l) (cl, sq) = (k : Int)
      · have HY2 := Lib.hid (HY.out he)
        rw [he] at HAK
        clear HY HN he
        go_wp2_with fail
        (with_reducible refine HAK.out.mono ?_)
        rintro e w1 ⟨rfl, hf1⟩
        have HF1 := Lib.hid hf1
        clear q0 q1 hf1
        go_wp2
        go_roundw
        case rel => exact ⟨k + 1, HLT.out, by go_num, HY2.out, HFR.out.trans HF1.out⟩
        case measure => have := HLT.out; simp [intOf]; omega
      · have HN2 := Lib.hid (HN.out he)
        have hbe : (atL (idsO l) (cl, sq) == (k : Int)) = false := beq_eq_false_iff_ne.2 he
        have hbn : (atL (idsO l) (cl, sq) != (k : Int)) = true := by simp [he]
        generalize atL (idsO l) (cl, sq) = at_ at *
        clear HY HN
        go_wp2_with fail
        (with_reducible refine HAK.out.mono ?_)
        rintro e w1 ⟨rfl, hf1⟩
        have HF1 := Lib.hid hf1
        clear q0 q1 hf1
        go_wp2
        go_ret
        exact ⟨by rw [HN2.out]; rfl, HFR.out.trans HF1.out⟩
    · obtain rfl : k = l.length := by omega
      have HE : Hid (rightL l = true) := right_at.2 fun i h => hall i h h
      clear hall
      go_wp2
      go_ret
      exact ⟨by rw [HE.out]; rfl, hfr⟩

theorem others_snoc {a b : List Od} {k : Nat} (h : k < b.length) : others Od.id a (b.take (k + 1)) = others Od.id a (b.take k) ++ if atL (idsO a) b[k].id < 0 then [b[k]] else [] := by
  unfold others
  rw [List.take_succ_eq_append_getElem h, List.filter_append]
  congr 1
  by_cases hn : atL (idsO a) b[k].id < 0
  · have h1 : b[k].id ∉ a.map Od.id := atL_neg.1 hn
    rw [if_pos hn, List.filter_cons]
    split
    · rfl
    · rename_i h2
      exact absurd (by simp only [decide_eq_true_eq]; exact h1) h2
  · rw [if_neg hn, List.filter_cons]
    split
    · rename_i h2
      simp only [decide_eq_true_eq] at h2
      exact absurd (atL_neg.2 h2) hn
    · rfl
theorem others_len (a b : List Od) (k : Nat) : (others Od.id a (b.take k)).length ≤ k := by
  unfold others
  refine Nat.le_trans (List.length_filter_le _ _) ?_
  rw [List.length_take]
  omega
def OtRel (w0 w : World) (a b : List Od) (lv iv : Value) (wr : World) : Prop := ∃ k : Nat, k ≤ b.length ∧ iv = .int .i64 k ∧ OwnO w0 wr lv (others Od.id a (b.take k)) ∧ Fr No w wr ∧ Newer w.heap.size none lv.ownBlock
set_option maxRecDepth 100000 in
set_option maxHeartbeats 1000000 in
theorem others10_any (w0 w : World) (G F : Nat → Prop) (B : Option Addr) (d : Nat) (b : List Od) (A : Option Addr) (c : Nat) (l : List Od) (hb : OdsS w0 w G B b) (hl : OdsS w0 w F A l) (hbn : b.length ≤ 1000000) (hn : l.length ≤ 1000000) :
    Calls Try.prog 28 #[.slice B b.length d, .slice A l.length c] w (FewRet w0 w (others Od.id b l)) := by
  have HL := Lib.hid hl
  have HAT : Hid (∀ W x y, Fr No w W → Calls Try.prog 30 #[.slice B b.length d, .agg #[.int .i64 x, .int .i64 y]] W fun e w' => e = .returned (.int .i64 (atL (idsO b) (x, y))) ∧ Fr No W w') := fun W x y hW => at10_any w0 W G B d b x y (hb.fr hW (fun _ _ _ h => h)) hbn
  clear hl hb
  go_enter Try.func28, Try.ntmps28
  go_wp2
  go_loopw [5, 6] (fun lv iv wr => OtRel w0 w b l lv iv wr) (fun _ iv _ => l.length - (intOf iv).toNat)
  case atStart => exact ⟨0, Nat.zero_le _, rfl, OwnO.nil _ _, Fr.refl _ _, .inl rfl⟩
  case round =>
    obtain ⟨k, hk, rfl, hown, hfr, hnew⟩ := hrel
    have hk62 : (k : Int) ≤ 1000000 := by omega
    by_cases hlt : k < l.length
    · obtain ⟨ad, v, rfl, _, hok, hg, hL, q0, q1, q2, q3, q4, q5, q6, q7, q8, q9⟩ := (HL.out.fr hfr (fun _ _ _ h => h)).at_ k hlt
      obtain ⟨B', d', rfl, hd1, hd2⟩ := hL.form
      have HTK : Hid (others Od.id b (l.take (k + 1)) = others Od.id b (l.take k) ++ if atL (idsO b) (l[k].cl, l[k].sq) < 0 then [l[k]] else []) := others_snoc hlt
      have HO : Hid (OdR w0 [.int .i64 l[k].cl, .int .i64 l[k].sq, .int .i64 l[k].kd, .string l[k].acct, .string l[k].peer, .int .i64 l[k].sum, .slice B' l[k].legs.length d', .int .i64 l[k].per, .int .i64 l[k].hold, .string l[k].note] l[k]) := ⟨_, rfl, hok, hg, hL⟩
      have HLK : Hid ((others Od.id b (l.take k)).length ≤ k) := others_len b l k
      have HFR := Lib.hid hfr
      have HNW := Lib.hid hnew
      have HLT : Hid (k + 1 ≤ l.length) := hlt
      obtain ⟨cells, ho, hE⟩ := hown
      have HOO := Lib.hid ho
      have HE := Lib.hid hE
      generalize l[k].legs.length = Ln at *
      generalize l[k].cl = cl at *
      generalize l[k].sq = sq at *
      generalize l[k].kd = kd at *
      generalize l[k].acct = acct at *
      generalize l[k].peer = peer at *
      generalize l[k].sum = sum at *
      generalize l[k].per = per at *
      generalize l[k].hold = hold at *
      generalize l[k].note = note at *
      generalize l[k] = ok_ at *
      clear hok hg hL ho hE hfr hnew
      have HAK := Lib.hid (HAT.out wr cl sq HFR.out)
      generalize others Od.id b (l.take k) = lk at *
      by_cases he : atL (idsO b) (cl, sq) < 0
      · have HTK2 : Hid (others Od.id b (l.take (k + 1)) = lk ++ [ok_]) := by show _ = _; rw [HTK.out, if_pos he]
        have hbd : decide (atL (idsO b) (cl, sq) < 0) = true := decide_eq_true he
        generalize atL (idsO b) (cl, sq) = at_ at *
        clear HTK
        go_wp2_with fail
        (with_reducible refine HAK.out.mono ?_)
        rintro e w1 ⟨rfl, hf1⟩
        have HR : Hid (∀ p v, wr.cell? p = some v → w1.cell? p = some v) := fun p v h => hf1.cell_some h (fun h => h)
        have r0 := HR.out _ _ q0
        have r1 := HR.out _ _ q1
        have r2 := HR.out _ _ q2
        have r3 := HR.out _ _ q3
        have r4 := HR.out _ _ q4
        have r5 := HR.out _ _ q5
        have r6 := HR.out _ _ q6
        have r7 := HR.out _ _ q7
        have r8 := HR.out _ _ q8
        have r9 := HR.out _ _ q9
        have HF1 := Lib.hid hf1
        clear q0 q1 q2 q3 q4 q5 q6 q7 q8 q9 hf1 HR
        go_wp2_with (at_builtin; refine wpList_app _ rfl (.tmp 21) (.tmp 26) 22 22 rfl elO ((HOO.out.fr HF1.out (fun _ _ h => h)).alloc _) rfl (Src.of_new (cs := #[.int .i64 cl, .int .i64 sq, .int .i64 kd, .string acct, .string peer, .int .i64 sum, .slice B' Ln d', .int .i64 per, .int .i64 hold, .string note]) (t := 30) w1.heap.size (heap_alloc_new w1 _) Try.underlying22 rfl (by simp [Value.oneCell'])) rfl (by have := HLK.out; simp only [maxLen]; omega) (by have := HLK.out; omega) ?_; intro v1 w3 hown3 hfr3 hnew3)
        go_roundw
        case rel =>
          refine ⟨k + 1, HLT.out, by go_num, ?_, ?_, ?_⟩
          · rw [HTK2.out]
            exact ⟨_, by rw [List.length_append]; exact hown3, Each.snocO HE.out rfl HO.out⟩
          · refine ((HFR.out.trans HF1.out).alloc _).trans' hfr3 fun i hi hlt => ?_
            have hi : _ = some i := hi
            have := newer_none HNW.out i hi
            omega
          · refine HNW.out.trans (Newer.of hnew3) ?_
            rw [World.size_alloc]
            have h1 := HF1.out.size
            have := HFR.out.size
            omega
        case measure => have := HLT.out; simp [intOf]; omega
      · have HTK2 : Hid (others Od.id b (l.take (k + 1)) = lk) := by show _ = _; rw [HTK.out, if_neg he, List.append_nil]
        have hbd : decide (atL (idsO b) (cl, sq) < 0) = false := decide_eq_false he
        generalize atL (idsO b) (cl, sq) = at_ at *
        clear HTK
        go_wp2_with fail
        (with_reducible refine HAK.out.mono ?_)
        rintro e w1 ⟨rfl, hf1⟩
        clear q0 q1 q2 q3 q4 q5 q6 q7 q8 q9
        have HF1 := Lib.hid hf1
        clear hf1
        go_wp2
        go_roundw
        case rel =>
          refine ⟨k + 1, HLT.out, by go_num, ?_, HFR.out.trans HF1.out, HNW.out⟩
          rw [HTK2.out]
          exact ⟨cells, HOO.out.fr HF1.out (fun _ _ h => h), HE.out⟩
        case measure => have := HLT.out; simp [intOf]; omega
    · obtain rfl : k = l.length := by omega
      rw [List.take_of_length_le (Nat.le_refl _)] at hown
      obtain ⟨A1, c1, rfl, hl1, hm1⟩ := OwnO.form hown
      have HR := Lib.hid (OwnO.ret hown hfr hnew)
      go_wp2
      go_ret
      exact ⟨_, _, rfl, HR.out, hl1, hm1, hfr⟩
end Go.Proofs.Ytnphncemghfkbaa

namespace Go.Proofs.Ytnphncemghfkbaa
open Go.RowKit Go.My Go.Maps
set_option linter.unusedSimpArgs false
set_option linter.unusedVariables false
attribute [local go_sem ↓] Go.wp_at_zero Go.wp_at_succ

theorem neq_id (a b c d : Int) (W : World) (h : ¬ (a = c ∧ b = d)) : (binOp .neq 27 (.agg #[.int .i64 a, .int .i64 b]) (.agg #[.int .i64 c, .int .i64 d])).run Try.prog W = .ok (.bool true) W := by
  simp [go_sem]
  intro h1
  exact fun h2 => h ⟨h1, h2⟩
theorem eqO_ne {o r : Od} (h : o ≠ r) : eqO o r = false := by
  cases hq : eqO o r with
  | false => rfl
  | true => exact absurd ((eqO_iff _ _).1 hq) h
set_option maxRecDepth 100000 in
set_option maxHeartbeats 8000000 in
theorem refsameO_any (F G : Nat → Prop) (o r : Od) (v u : Value) (w : World) (hv : LgS w F v o.legs) (hu : LgS w G u r.legs) :
    Calls Try.prog 33 #[o.val v, r.val u] w fun e w' => e = .returned (.bool (eqO o r)) ∧ Fr No w w' := by
  obtain ⟨acl, asq, akd, aac, ape, asm, alg, apr, ahd, ant⟩ := o
  obtain ⟨bcl, bsq, bkd, bac, bpe, bsm, blg, bpr, bhd, bnt⟩ := r
  unfold Od.val Od.cs
  have hv0 := hv
  have hu0 := hu
  obtain ⟨aA, aC, rfl, alc, acm⟩ := hv0.form
  obtain ⟨bA, bC, rfl, blc, bcm⟩ := hu0.form
  simp only at hv hu alc blc ⊢
  clear hv0 hu0
  have hpa := (Blk.new w 30 #[.int .i64 acl, .int .i64 asq, .int .i64 akd, .string aac, .string ape, .int .i64 asm, .slice aA alg.length aC, .int .i64 apr, .int .i64 ahd, .string ant]).alloc (.cells #[.int .i64 bcl, .int .i64 bsq, .int .i64 bkd, .string bac, .string bpe, .int .i64 bsm, .slice bA blg.length bC, .int .i64 bpr, .int .i64 bhd, .string bnt] 30)
  have hpb := Blk.new (w.alloc (.cells #[.int .i64 acl, .int .i64 asq, .int .i64 akd, .string aac, .string ape, .int .i64 asm, .slice aA alg.length aC, .int .i64 apr, .int .i64 ahd, .string ant] 30)) 30 #[.int .i64 bcl, .int .i64 bsq, .int .i64 bkd, .string bac, .string bpe, .int .i64 bsm, .slice bA blg.length bC, .int .i64 bpr, .int .i64 bhd, .string bnt]
  rw [World.size_alloc] at hpb
  have hf0 : Fr No w ((w.alloc (.cells #[.int .i64 acl, .int .i64 asq, .int .i64 akd, .string aac, .string ape, .int .i64 asm, .slice aA alg.length aC, .int .i64 apr, .int .i64 ahd, .string ant] 30)).alloc (.cells #[.int .i64 bcl, .int .i64 bsq, .int .i64 bkd, .string bac, .string bpe, .int .i64 bsm, .slice bA blg.length bC, .int .i64 bpr, .int .i64 bhd, .string bnt] 30)) := ((Fr.refl _ _).alloc _).alloc _
  have hlv := hv.no hf0
  have hlu := hu.no hf0
  clear hv hu
  generalize hEQ : eqO ⟨acl, asq, akd, aac, ape, asm, alg, apr, ahd, ant⟩ ⟨bcl, bsq, bkd, bac, bpe, bsm, blg, bpr, bhd, bnt⟩ = res at *
  go_enter Try.func33, Try.ntmps33
  go_upto_region 1 with (fail)
  generalize ((w.alloc (.cells #[.int .i64 acl, .int .i64 asq, .int .i64 akd, .string aac, .string ape, .int .i64 asm, .slice aA alg.length aC, .int .i64 apr, .int .i64 ahd, .string ant] 30)).alloc (.cells #[.int .i64 bcl, .int .i64 bsq, .int .i64 bkd, .string bac, .string bpe, .int .i64 bsm, .slice bA blg.length bC, .int .i64 bpr, .int .i64 bhd, .string bnt] 30)) = w2 at *
  have x0 := hpa.cell 0
  have x1 := hpa.cell 1
  have x2 := hpa.cell 2
  have x3 := hpa.cell 3
  have x4 := hpa.cell 4
  have x5 := hpa.cell 5
  have x6 := hpa.cell 6
  have x7 := hpa.cell 7
  have x8 := hpa.cell 8
  have x9 := hpa.cell 9
  simp only [List.getElem?_toArray, List.getElem?_cons_zero, List.getElem?_cons_succ] at x0 x1 x2 x3 x4 x5 x6 x7 x8 x9
  have y0 := hpb.cell 0
  have y1 := hpb.cell 1
  have y2 := hpb.cell 2
  have y3 := hpb.cell 3
  have y4 := hpb.cell 4
  have y5 := hpb.cell 5
  have y6 := hpb.cell 6
  have y7 := hpb.cell 7
  have y8 := hpb.cell 8
  have y9 := hpb.cell 9
  simp only [List.getElem?_toArray, List.getElem?_cons_zero, List.getElem?_cons_succ] at y0 y1 y2 y3 y4 y5 y6 y7 y8 y9
  have HF := Lib.hid hf0
  clear hf0 hpa hpb
  by_cases h2 : acl = bcl ∧ asq = bsq
  rotate_left
  · obtain rfl : res = false := by
      rw [← hEQ]
      apply eqO_ne
      intro h
      simp only [Od.mk.injEq] at h
      exact h2 ⟨h.1, h.2.1⟩
    have hne := fun W => neq_id acl asq bcl bsq W h2
    clear hEQ h2 hlv hlu
    go_wp2
    go_ret
    exact ⟨rfl, HF.out⟩
  obtain ⟨rfl, rfl⟩ := h2
  by_cases h2 : akd = bkd
  rotate_left
  · obtain rfl : res = false := by
      rw [← hEQ]
      apply eqO_ne
      intro h
      simp only [Od.mk.injEq] at h
      exact h2 (by simp only [h])
    have hz : (akd != bkd) = true := bne_iff_ne.2 h2
    have hz2 : (akd == bkd) = false := beq_eq_false_iff_ne.2 h2
    clear hEQ h2 hlv hlu
    go_wp2
    go_ret
    exact ⟨rfl, HF.out⟩
  subst h2
  by_cases h2 : aac.data.toList = bac.data.toList
  rotate_left
  · obtain rfl : res = false := by
      rw [← hEQ]
      apply eqO_ne
      intro h
      simp only [Od.mk.injEq] at h
      exact h2 (by simp only [h])
    have hz2 : (aac.toList == bac.toList) = false := by rw [ByteArray.toList_eq, ByteArray.toList_eq]; exact beq_eq_false_iff_ne.2 h2
    have hz : (aac.toList != bac.toList) = true := by rw [bne, hz2]; rfl
    clear hEQ h2 hlv hlu
    go_wp2
    go_ret
    exact ⟨rfl, HF.out⟩
  obtain rfl := bytes_ext h2
  clear h2
  by_cases h2 : ape.data.toList = bpe.data.toList
  rotate_left
  · obtain rfl : res = false := by
      rw [← hEQ]
      apply eqO_ne
      intro h
      simp only [Od.mk.injEq] at h
      exact h2 (by simp only [h])
    have hz2 : (ape.toList == bpe.toList) = false := by rw [ByteArray.toList_eq, ByteArray.toList_eq]; exact beq_eq_false_iff_ne.2 h2
    have hz : (ape.toList != bpe.toList) = true := by rw [bne, hz2]; rfl
    clear hEQ h2 hlv hlu
    go_wp2
    go_ret
    exact ⟨rfl, HF.out⟩
  obtain rfl := bytes_ext h2
  clear h2
  by_cases h2 : asm = bsm
  rotate_left
  · obtain rfl : res = false := by
      rw [← hEQ]
      apply eqO_ne
      intro h
      simp only [Od.mk.injEq] at h
      exact h2 (by simp only [h])
    have hz : (asm != bsm) = true := bne_iff_ne.2 h2
    have hz2 : (asm == bsm) = false := beq_eq_false_iff_ne.2 h2
    clear hEQ h2 hlv hlu
    go_wp2
    go_ret
    exact ⟨rfl, HF.out⟩
  subst h2
  by_cases h2 : apr = bpr
  rotate_left
  · obtain rfl : res = false := by
      rw [← hEQ]
      apply eqO_ne
      intro h
      simp only [Od.mk.injEq] at h
      exact h2 (by simp only [h])
    have hz : (apr != bpr) = true := bne_iff_ne.2 h2
    have hz2 : (apr == bpr) = false := beq_eq_false_iff_ne.2 h2
    clear hEQ h2 hlv hlu
    go_wp2
    go_ret
    exact ⟨rfl, HF.out⟩
  subst h2
  by_cases h2 : ahd = bhd
  rotate_left
  · obtain rfl : res = false := by
      rw [← hEQ]
      apply eqO_ne
      intro h
      simp only [Od.mk.injEq] at h
      exact h2 (by simp only [h])
    have hz : (ahd != bhd) = true := bne_iff_ne.2 h2
    have hz2 : (ahd == bhd) = false := beq_eq_false_iff_ne.2 h2
    clear hEQ h2 hlv hlu
    go_wp2
    go_ret
    exact ⟨rfl, HF.out⟩
  subst h2
  by_cases h2 : ant.data.toList = bnt.data.toList
  rotate_left
  · obtain rfl : res = false := by
      rw [← hEQ]
      apply eqO_ne
      intro h
      simp only [Od.mk.injEq] at h
      exact h2 (by simp only [h])
    have hz2 : (ant.toList == bnt.toList) = false := by rw [ByteArray.toList_eq, ByteArray.toList_eq]; exact beq_eq_false_iff_ne.2 h2
    have hz : (ant.toList != bnt.toList) = true := by rw [bne, hz2]; rfl
    clear hEQ h2 hlv hlu
    go_wp2
    go_ret
    exact ⟨rfl, HF.out⟩
  obtain rfl := bytes_ext h2
  clear h2
  by_cases h2 : alg.length = blg.length
  rotate_left
  · obtain rfl : res = false := by
      rw [← hEQ]
      apply eqO_ne
      intro h
      simp only [Od.mk.injEq] at h
      exact h2 (by simp only [h])
    have hz : ((alg.length : Int) != (blg.length : Int)) = true := by rw [bne_iff_ne]; omega
    clear hEQ h2 hlv hlu
    go_wp2
    go_ret
    exact ⟨rfl, HF.out⟩
  have HL := Lib.hid h2
  have hz : ((alg.length : Int) != (blg.length : Int)) = false := by rw [bne_eq_false_iff_eq]; omega
  clear h2
  have HEQ := Lib.hid hEQ
  obtain ⟨A', c', cA, e1, hA, eA, _, _⟩ := hlv
  cases e1
  obtain ⟨B', d', cB, e2, hB, eB, _, _⟩ := hlu
  cases e2
  have HA := Lib.hid hA
  have HB := Lib.hid hB
  have EA := Lib.hid eA
  have EB := Lib.hid eB
  clear hA hB eA eB hEQ
  go_wp2
  go_loopw [5] (fun iv wr => ∃ k j : Nat, k ≤ alg.length ∧ iv = .int .i64 k ∧ alg.take k = blg.take k ∧ wr = w2.drewN j) (fun iv _ => alg.length - (intOf iv).toNat)
  case atStart => exact ⟨0, 0, Nat.zero_le _, rfl, rfl, rfl⟩
  case round =>
    obtain ⟨k, j, hk, rfl, heq, rfl⟩ := hrel
    have HE := Lib.hid heq
    clear heq
    by_cases hlt : k < alg.length
    · have hlt2 : k < blg.length := by have := HL.out; omega
      obtain ⟨ad, rfl, _, hok1, p0, p1⟩ := lg_at HA.out EA.out k hlt hlt
      obtain ⟨bd, rfl, _, hok2, q0, q1⟩ := lg_at HB.out EB.out k hlt2 hlt2
      have e1 : alg.take (k + 1) = alg.take k ++ [alg[k]] := List.take_succ_eq_append_getElem hlt
      have e2 : blg.take (k + 1) = blg.take k ++ [blg[k]] := List.take_succ_eq_append_getElem hlt2
      have hk62 : (k : Int) < 9223372036854775807 := by unfold maxLen at acm; omega
      by_cases hxy : alg[k] = blg[k]
      · have E : Hid (alg.take (k + 1) = blg.take (k + 1)) := by show _ = _; rw [e1, e2, HE.out, hxy]
        rw [← hxy] at q0 q1
        clear e1 e2 hxy hok1 hok2
        generalize alg[k].acct = n1 at *
        generalize alg[k].sum = v1 at *
        go_wp2
        go_quiet (fail)
        go_wp2
        go_roundw
        case rel => exact ⟨k + 1, _, by omega, by go_num, E.out, rfl⟩
        case measure => simp [intOf]; omega
      · obtain rfl : res = false := by
          rw [← HEQ.out]
          apply eqO_ne
          intro h
          simp only [Od.mk.injEq] at h
          have h3 : alg = blg := by simp only [h]
          subst h3
          exact hxy rfl
        have hne := fun W => neq_lg alg[k] blg[k] W hxy
        clear e1 e2 hxy hok1 hok2
        generalize alg[k].acct = n1 at *
        generalize alg[k].sum = v1 at *
        generalize blg[k].acct = m1 at *
        generalize blg[k].sum = u1 at *
        go_wp2
        go_quiet (fail)
        go_wp2
        go_ret
        exact ⟨rfl, (HF.out.drewN _).drewN _⟩
    · have hkl : k = alg.length := by omega
      subst hkl
      have h1 := HE.out
      rw [List.take_length, HL.out, List.take_length] at h1
      obtain rfl : res = true := by
        rw [← HEQ.out, eqO_iff]
        simp only [Od.mk.injEq]
        simp [h1]
      clear h1
      go_wp2
      go_ret
      exact ⟨rfl, HF.out.drewN _⟩
end Go.Proofs.Ytnphncemghfkbaa

namespace Go.Proofs.Ytnphncemghfkbaa
open Go.RowKit Go.My Go.Maps Go.Sort Go.Lib
set_option linter.unusedSimpArgs false
set_option linter.unusedVariables false
attribute [local go_sem ↓] Go.wp_at_zero Go.wp_at_succ

theorem ts_at {w : World} {F : Nat → Prop} {A : Option Addr} {n : Nat} {L : List (List UInt8)} (h : Rd w F 1 A n (ts L)) (k : Nat) (hk : k < n) : ∃ ad, ∃ hl : k < L.length, A = some ad ∧ F ad.block ∧ w.cell? (ad.add k) = some (.string ⟨L[k].toArray⟩) := by
  obtain ⟨ad, rfl, hF, hc⟩ := h.2 (by omega)
  have hl : k < L.length := by have := h.1; rw [ts_length] at this; omega
  exact ⟨ad, hl, rfl, hF, hc k _ (ts_get L k hl)⟩
def hasT (L : List (List UInt8)) (s : List UInt8) : Bool := decide (s ∈ L)
def HsRel (w : World) (L : List (List UInt8)) (s : List UInt8) (iv : Value) (wr : World) : Prop := ∃ k : Nat, k ≤ L.length ∧ iv = .int .i64 k ∧ (∀ x ∈ L.take k, x ≠ s) ∧ wr = w
/-! ### what is known of the accounts that an order names -/
theorem touch_mem (o : Od) (s : List UInt8) : s ∈ touchL o ↔ s ∈ allN o o.legs.length ∧ s ≠ [] := by
  unfold touchL
  rw [(upOf_spec _).2 s]
  unfold namesO
  rw [List.mem_filter]
  cases s <;> simp
theorem touch_up (o : Od) : Up (touchL o) := (upOf_spec _).1
theorem touch_length (o : Od) : (touchL o).length ≤ 2 + o.legs.length := by
  refine Nat.le_trans (upOf_length _) ?_
  unfold namesO
  refine Nat.le_trans (List.length_filter_le _ _) ?_
  rw [allN_length _ _ (Nat.le_refl _)]
  exact Nat.le_refl _
theorem touch_step {L : List (List UInt8)} (h : Up L) (k : Nat) (hk : k < L.length) (h0 : 0 < k) : L[k - 1] < L[k] := List.pairwise_iff_getElem.1 h (k - 1) k (by omega) hk (by omega)
theorem nameB_nil : nameB [] = false := by rfl
theorem touch_none {o : Od} (h : rightO o = true) : ((touchL o).length = 0) ↔ o.kd = 6 := by
  have hm := touch_mem o
  have hx : (touchL o).length = 0 ↔ ∀ s, s ∈ allN o o.legs.length → s = [] := by
    rw [List.length_eq_zero_iff, List.eq_nil_iff_forall_not_mem]
    constructor
    · intro h s hs
      exact Decidable.byContradiction fun hn => h s ((hm s).2 ⟨hs, hn⟩)
    · intro h s hs
      have := (hm s).1 hs
      exact this.2 (h s this.1)
  rw [hx]
  clear hm hx
  obtain ⟨cl, sq, kd, acct, peer, sum, legs, per, hold, note⟩ := o
  unfold rightO acctB peerB sumB legsB perB holdB noteB at h
  simp only [Bool.and_eq_true, decide_eq_true_eq] at h
  obtain ⟨h1, h2, _, ha, hp, _, hl, _⟩ := h
  have hc : kd = 1 ∨ kd = 2 ∨ kd = 3 ∨ kd = 4 ∨ kd = 5 ∨ kd = 6 ∨ kd = 7 := by omega
  have hA : ∀ s, nameB s = true → s ≠ [] := fun s hs e => by rw [e, nameB_nil] at hs; cases hs
  have key : kd ≠ 6 → kd ≠ 2 → ¬ ∀ s, s ∈ allN ⟨cl, sq, kd, acct, peer, sum, legs, per, hold, note⟩ legs.length → s = [] := fun h6 h2 hall => by
    rw [if_neg (by omega)] at ha
    exact hA _ ha (hall _ (by unfold allN; simp))
  constructor
  · intro hall
    refine Decidable.byContradiction fun h6 => ?_
    simp only at h6
    by_cases hk2 : kd = 2
    · subst hk2
      simp only [if_true] at hl
      unfold rightB at hl
      simp only [Bool.and_eq_true, decide_eq_true_eq] at hl
      obtain ⟨⟨⟨l2, _⟩, hg⟩, _⟩ := hl
      match legs, l2, hg, hall with
      | g :: r, _, hg, hall =>
        rw [List.all_cons, Bool.and_eq_true, Bool.and_eq_true] at hg
        refine hA _ hg.1.1 (hall g.nm ?_)
        unfold allN
        simp
    · exact key h6 hk2 hall
  · intro h6 s hs
    simp only at h6
    subst h6
    simp at ha hp hl
    unfold allN at hs
    simp only [Od.an, Od.pn] at ha hp hs
    simp [hl] at hs
    rcases hs with rfl | rfl
    · simp [ha]
    · simp [hp]
theorem less_at {L : List (List UInt8)} (h : Up L) (k : Nat) (hk : k < L.length) (h0 : 0 < k) : Op.bytesLess L[k - 1] L[k] = true := by
  rw [bytesLess_eq]
  exact decide_eq_true (touch_step h k hk h0)
def LpRel (n : Nat) (w : World) (iv : Value) (wr : World) : Prop := ∃ k : Nat, k ≤ n ∧ iv = .int .i64 k ∧ Fr No w wr
def LqRel (n : Nat) (w : World) (iv : Value) (wr : World) : Prop := ∃ k : Nat, k ≤ n ∧ iv = .int .i64 k ∧ wr = w
theorem RetTrue.of {w w' : World} (h : Below w.heap.size w w') : RetTrue w (.returned (.bool true)) w' := ⟨rfl, h⟩
end Go.Proofs.Ytnphncemghfkbaa

namespace Go.Proofs.Ytnphncemghfkbaa
open Go.RowKit Go.My Go.Maps
set_option linter.unusedSimpArgs false
set_option linter.unusedVariables false
attribute [local go_sem ↓] Go.wp_at_zero Go.wp_at_succ

def RNmRel (s : ByteArray) (iv : Value) : Prop := ∃ k : Nat, k ≤ s.size ∧ iv = .int .i64 k ∧ (s.data.toList.take k).all okc = true
theorem before_take : ∀ (a b : List UInt8) (k : Nat), a.take k = b.take k → k ≤ a.length → k ≤ b.length → bytesBefore a b = bytesBefore (a.drop k) (b.drop k)
  | a, b, 0, _, _, _ => rfl
  | [], _, k + 1, _, h, _ => by simp at h
  | _, [], k + 1, _, _, h => by simp at h
  | x :: a, y :: b, k + 1, h, ha, hb => by
    simp only [List.take_succ_cons, List.cons.injEq] at h
    obtain ⟨rfl, h⟩ := h
    rw [List.drop_succ_cons, List.drop_succ_cons, ← before_take a b k h (by simpa using ha) (by simpa using hb)]
    simp [bytesBefore]
theorem before_cons (x y : UInt8) (a b : List UInt8) (h : x ≠ y) : bytesBefore (x :: a) (y :: b) = decide ((x.toNat : Int) < (y.toNat : Int)) := by
  simp only [bytesBefore]
  rw [beq_eq_false_iff_ne.2 h]
  simp [UInt8.lt_iff_toNat_lt]
theorem before_end (a b : List UInt8) (h : a = [] ∨ b = []) : bytesBefore a b = decide ((a.length : Int) < (b.length : Int)) := by
  rcases h with rfl | rfl
  · cases b <;> simp [bytesBefore] <;> omega
  · cases a <;> simp [bytesBefore] <;> omega

def AhRel (s t : ByteArray) (w : World) (iv : Value) (wr : World) : Prop := ∃ k j : Nat, k ≤ s.size ∧ k ≤ t.size ∧ iv = .int .i64 k ∧ s.data.toList.take k = t.data.toList.take k ∧ wr = w.drewN j
set_option maxRecDepth 100000 in
set_option maxHeartbeats 1000000 in
theorem refahead_any (s t : ByteArray) (w : World) (hs : s.size ≤ maxLen) (ht : t.size ≤ maxLen) :
    Calls Try.prog 38 #[.string s, .string t] w fun e w' => e = .returned (.bool (bytesBefore s.data.toList t.data.toList)) ∧ ∃ j, w' = w.drewN j := by
  unfold maxLen at hs ht
  go_enter Try.func38, Try.ntmps38
  go_wp2
  go_loopw [5] (fun iv wr => AhRel s t w iv wr) (fun iv _ => s.size - (intOf iv).toNat)
  case atStart => exact ⟨0, 0, Nat.zero_le _, Nat.zero_le _, rfl, rfl, rfl⟩
  case round =>
    obtain ⟨k, j, hk1, hk2, rfl, heq, rfl⟩ := hrel
    by_cases hlt : k < s.size
    · by_cases hlt2 : k < t.size
      · have e1 : s.data.toList.take (k + 1) = s.data.toList.take k ++ [s[k]] := by rw [List.take_succ_eq_append_getElem (by simpa using hlt)]; rfl
        have e2 : t.data.toList.take (k + 1) = t.data.toList.take k ++ [t[k]] := by rw [List.take_succ_eq_append_getElem (by simpa using hlt2)]; rfl
        have d1 : s.data.toList.drop k = s[k] :: s.data.toList.drop (k + 1) := by rw [List.drop_eq_getElem_cons (by simpa using hlt)]; rfl
        have d2 : t.data.toList.drop k = t[k] :: t.data.toList.drop (k + 1) := by rw [List.drop_eq_getElem_cons (by simpa using hlt2)]; rfl
        by_cases hxy : s[k] = t[k]
        · have E : Hid (s.data.toList.take (k + 1) = t.data.toList.take (k + 1)) := by show _ = _; rw [e1, e2, heq, hxy]
          have hz : ((s[k].toNat : Int) != (t[k].toNat : Int)) = false := by rw [hxy]; exact bne_self_eq_false _
          clear e1 e2 d1 d2 heq hxy
          go_wp2
          go_quiet (fail)
          go_wp2
          go_roundw
          case rel => exact ⟨k + 1, _, by omega, by omega, by go_num, E.out, rfl⟩
          case measure => simp [intOf]; omega
        · have E : Hid (bytesBefore s.data.toList t.data.toList = decide ((s[k].toNat : Int) < (t[k].toNat : Int))) := by
            show _ = _
            rw [before_take _ _ k heq (by simp; omega) (by simp; omega), d1, d2, before_cons _ _ _ _ hxy]
          have hz : ((s[k].toNat : Int) != (t[k].toNat : Int)) = true := by
            rw [bne_iff_ne]
            intro h
            exact hxy (UInt8.toNat.inj (by omega))
          have hz2 : (s[k].toNat != t[k].toNat) = true := by
            rw [bne_iff_ne]
            intro h
            exact hxy (UInt8.toNat.inj h)
          clear e1 e2 d1 d2 heq hxy
          go_wp2
          go_quiet (fail)
          go_wp2
          go_quiet (fail)
          go_wp2
          go_ret
          exact ⟨by rw [E.out]; simp, _, by rw [World.drewN_drewN, World.drewN_drewN]⟩
      · have E : Hid (bytesBefore s.data.toList t.data.toList = decide (s.size < t.size)) := by
          have hd : t.data.toList.drop k = [] := List.drop_eq_nil_of_le (by simp; omega)
          show _ = _
          rw [before_take _ _ k heq (by simp; omega) (by simp; omega), before_end _ _ (.inr hd), List.length_drop, List.length_drop]
          congr 1
          simp
          omega
        clear heq
        go_wp2
        go_ret
        exact ⟨by rw [E.out]; rfl, _, rfl⟩
    · have E : Hid (bytesBefore s.data.toList t.data.toList = decide (s.size < t.size)) := by
        have hd : s.data.toList.drop k = [] := List.drop_eq_nil_of_le (by simp; omega)
        show _ = _
        rw [before_take _ _ k heq (by simp; omega) (by simp; omega), before_end _ _ (.inl hd), List.length_drop, List.length_drop]
        congr 1
        simp
        omega
      clear heq
      go_wp2
      go_ret
      exact ⟨by rw [E.out]; rfl, _, rfl⟩

end Go.Proofs.Ytnphncemghfkbaa
