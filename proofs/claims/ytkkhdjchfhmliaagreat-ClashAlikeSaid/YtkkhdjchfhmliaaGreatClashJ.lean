/- What the laws on clashes are made of: the first orders of a list, those of their own Ids. -/
import Derived.Test.YtkkhdjchfhmliaaGreatClashI
namespace Go.Proofs.YtkkhdjchfhmliaaGreat
open Go.RowKit Go.My Go.Maps Go.WideMaps
set_option linter.unusedSimpArgs false
set_option linter.unusedVariables false
attribute [local go_sem ↓] Go.wp_at_zero Go.wp_at_succ

def Od.few8 (o : Od) : Od := { o with legs := o.legs.take 8 }
def fewO (l : List Od) (n : Nat) : List Od := (l.take n).map Od.few8
theorem fewO_length (l : List Od) (n : Nat) : (fewO l n).length = min n l.length := by unfold fewO; rw [List.length_map, List.length_take]
theorem fewO_succ (l : List Od) (k : Nat) (hk : k < l.length) : fewO l (k + 1) = fewO l k ++ [l[k].few8] := by unfold fewO; rw [List.take_succ_eq_append_getElem hk, List.map_append]; rfl
/-- a row of the call's own that holds orders -/
def OwnO (w0 w : World) (v : Value) (l : List Od) : Prop := ∃ cells, Own w 39 10 v l.length cells ∧ Each (OdR w0) 10 cells l
theorem OwnO.nil (w0 w : World) : OwnO w0 w (.slice none 0 0) [] := ⟨[], Own.nil _ _ _, Each.nilO w0⟩
theorem OwnO.ods {w0 w : World} {A : Option Addr} {m c : Nat} {l : List Od} (h : OwnO w0 w (.slice A m c) l) : OdsS w0 w (fun k => (Value.slice A m c).ownBlock = some k) A l := by
  obtain ⟨cells, ho, hE⟩ := h
  exact ⟨cells, ho.rd, hE⟩
theorem OwnO.form {w0 w : World} {v : Value} {l : List Od} (h : OwnO w0 w v l) : ∃ A c, v = .slice A l.length c ∧ l.length ≤ c ∧ c ≤ maxLen := by
  obtain ⟨cells, ho, _⟩ := h
  exact ho.form
/-- what few hands back -/
theorem OwnO.ret {w0 w w' : World} {A : Option Addr} {c : Nat} {l : List Od} (h : OwnO w0 w' (.slice A l.length c) l) (hf : Fr No w w') (hn : Newer w.heap.size none (Value.slice A l.length c).ownBlock) : OdsS w0 w' (fun k => w.heap.size ≤ k) A l :=
  h.ods.more fun k hk => newer_none hn k hk
def FeRel (w0 w : World) (l : List Od) (n : Nat) (lv iv : Value) (wr : World) : Prop :=
  ∃ k : Nat, k ≤ l.length ∧ k ≤ n ∧ iv = .int .i64 k ∧ OwnO w0 wr lv (fewO l k) ∧ Fr No w wr ∧ Newer w.heap.size none lv.ownBlock
def FewRet (w0 w : World) (l : List Od) (e : Ending) (w' : World) : Prop := ∃ A c, e = .returned (.slice A l.length c) ∧ OdsS w0 w' (fun k => w.heap.size ≤ k) A l ∧ l.length ≤ c ∧ c ≤ maxLen ∧ Fr No w w'
set_option maxRecDepth 100000 in
set_option maxHeartbeats 4000000 in
theorem few10_any (w0 w : World) (F : Nat → Prop) (A : Option Addr) (c : Nat) (l : List Od) (n : Nat) (hl : OdsS w0 w F A l) (hlc : l.length ≤ c) (hcm : c ≤ maxLen) (hn : n ≤ 1000) :
    Calls Tryz.prog 7 #[.slice A l.length c, .int .i64 (n : Int)] w (FewRet w0 w (fewO l n)) := by
  have HL := Lib.hid hl
  have HCM := Lib.hid hcm
  have hlm : l.length ≤ 9223372036854775807 := by unfold maxLen at hcm; omega
  clear hl hcm
  go_enter Tryz.func7, Tryz.ntmps7
  go_wp2
  go_loopw [5, 6] (fun lv iv wr => FeRel w0 w l n lv iv wr) (fun _ iv _ => l.length - (intOf iv).toNat)
  case atStart => exact ⟨0, Nat.zero_le _, Nat.zero_le _, rfl, OwnO.nil _ _, Fr.refl _ _, .inl rfl⟩
  case round =>
    obtain ⟨k, hk, hkl, rfl, hown, hfr, hnew⟩ := hrel
    have hk62 : (k : Int) ≤ 9223372036854775807 := by omega
    by_cases hlt : k < l.length
    · by_cases hkn : k < n
      · obtain ⟨ad, v, rfl, _, hok, hg, hL, q0, q1, q2, q3, q4, q5, q6, q7, q8, q9⟩ := (HL.out.fr hfr (fun _ _ _ h => h)).at_ k hlt
        obtain ⟨B, d, rfl, hd1, hd2⟩ := hL.form
        have E : Hid (fewO l (k + 1) = fewO l k ++ [l[k].few8]) := fewO_succ l k hlt
        have HO : Hid (OdR w0 (l[k].few8.cs (.slice B (min l[k].legs.length 8) d)) l[k].few8) := ⟨_, rfl, hok, fun g h => hg g (List.mem_of_mem_take h), hL.take 8⟩
        have hlk : (fewO l k).length = k := by rw [fewO_length]; omega
        obtain ⟨cells, ho, hE⟩ := hown
        have HE := Lib.hid hE
        have hX : Hid ((fewO l k).length + 1 ≤ maxLen ∧ ((fewO l k).length + 1) * 120 ≤ 140737488355328) := by
          rw [hlk]
          refine ⟨?_, ?_⟩ <;> (try simp only [maxLen]) <;> omega
        have HLK := Lib.hid hlk
        have hcs : Hid (l[k].few8.cs (.slice B (min l[k].legs.length 8) d) = [.int .i64 l[k].cl, .int .i64 l[k].sq, .int .i64 l[k].kd, .string l[k].acct, .string l[k].peer, .int .i64 l[k].sum, .slice B (min l[k].legs.length 8) d, .int .i64 l[k].per, .int .i64 l[k].hold, .string l[k].note]) := rfl
        generalize l[k].few8.cs (.slice B (min l[k].legs.length 8) d) = CS at *
        generalize l[k].few8 = of_ at *
        clear hok hg hL hE hlk hk62 hk
        generalize l[k].legs = L at *
        generalize l[k].cl = cl at *
        generalize l[k].sq = sq at *
        generalize l[k].kd = kd at *
        generalize l[k].acct = acct at *
        generalize l[k].peer = peer at *
        generalize l[k].sum = sum at *
        generalize l[k].per = per at *
        generalize l[k].hold = hold at *
        generalize l[k].note = note at *
        have hmn : (min (L.length : Int) 8).toNat = min L.length 8 := by omega
        have hmx : 0 ≤ min (L.length : Int) 8 ∧ min (L.length : Int) 8 ≤ (d : Int) := ⟨by omega, by omega⟩
        have hkni : (k : Int) < (n : Int) := by omega
        go_wp2_with (at_builtin; refine wpList_app _ rfl (.tmp 31) (.tmp 33) 22 22 rfl elO ((ho.alloc _).alloc _) rfl (Src.of_new (cs := #[.int .i64 cl, .int .i64 sq, .int .i64 kd, .string acct, .string peer, .int .i64 sum, .slice B (min L.length 8) d, .int .i64 per, .int .i64 hold, .string note]) (t := 39) (wr.heap.size + 1) (by have h := heap_alloc_new (wr.alloc (.cells #[.int .i64 cl, .int .i64 sq, .int .i64 kd, .string acct, .string peer, .int .i64 sum, .slice B (min L.length 8) d, .int .i64 per, .int .i64 hold, .string note] 39)) (.cells #[.int .i64 cl, .int .i64 sq, .int .i64 kd, .string acct, .string peer, .int .i64 sum, .slice B (min L.length 8) d, .int .i64 per, .int .i64 hold, .string note] 39); rw [World.size_alloc] at h; exact h) Tryz.underlying22 rfl (by simp [Value.oneCell'])) rfl hX.out.1 hX.out.2 ?_; intro v1 w3 hown3 hfr3 hnew3)
        go_roundw
        case rel =>
          refine ⟨k + 1, by omega, by omega, by go_num, ?_, ?_, ?_⟩
          · rw [E.out]
            have hq := hcs.out
            subst hq
            exact ⟨_, by rw [List.length_append]; exact hown3, Each.snocO HE.out rfl HO.out⟩
          · exact fr_no ((hfr.alloc _).alloc _) hnew hfr3
          · exact hnew.trans (Newer.of hnew3) (by have := hfr.size; simp; omega)
        case measure => simp [intOf]; omega
      · have hkni : ¬ (k : Int) < (n : Int) := by omega
        have hkn' : k = n := by omega
        subst hkn'
        obtain ⟨A1, c1, rfl, hl1, hm1⟩ := OwnO.form hown
        have HR := Lib.hid (OwnO.ret hown hfr hnew)
        have HFR := Lib.hid hfr
        clear hown hfr hnew
        go_wp2
        go_ret
        exact ⟨_, _, rfl, HR.out, hl1, hm1, HFR.out⟩
    · obtain rfl : k = l.length := by omega
      have he : fewO l l.length = fewO l n := by
        unfold fewO
        rw [List.take_length, List.take_of_length_le hkl]
      rw [he] at hown
      obtain ⟨A1, c1, rfl, hl1, hm1⟩ := OwnO.form hown
      have HR := Lib.hid (OwnO.ret hown hfr hnew)
      have HFR := Lib.hid hfr
      clear hown hfr hnew he
      by_cases hkn : l.length < n
      · have hkni : (l.length : Int) < (n : Int) := by omega
        go_wp2
        go_ret
        exact ⟨_, _, rfl, HR.out, hl1, hm1, HFR.out⟩
      · have hkni : ¬ (l.length : Int) < (n : Int) := by omega
        go_wp2
        go_ret
        exact ⟨_, _, rfl, HR.out, hl1, hm1, HFR.out⟩
end Go.Proofs.YtkkhdjchfhmliaaGreat
