/- What the laws on clashes are made of: the first orders of a list, those of their own Ids. The steps of a list whose elements may change places: levels, and lists sorted. Of no program. The steps of a list: how they are made (by levels; step by step), and what one more does. Of no program. The levels of a list, as they are reckoned in a row of numbers. Of no program. -/
import Derived.Test.YtnphncemghfkbaaGreatQ08
import Derived.Test.YtnphncemghfkbaaGreatQ07
namespace Go.Proofs.YtnphncemghfkbaaGreat
open Go.RowKit Go.My Go.Maps Go.WideMaps
set_option linter.unusedSimpArgs false
set_option linter.unusedVariables false
attribute [local go_sem ↓] Go.wp_at_zero Go.wp_at_succ

def Od.few8 (o : Od) : Od := { o with legs := o.legs.take 8 }
def fewO (l : List Od) (n : Nat) : List Od := (l.take n).map Od.few8
theorem fewO_length (l : List Od) (n : Nat) : (fewO l n).length = min n l.length := by unfold fewO; rw [List.length_map, List.length_take]
theorem fewO_succ (l : List Od) (k : Nat) (hk : k < l.length) : fewO l (k + 1) = fewO l k ++ [l[k].few8] := by unfold fewO; rw [List.take_succ_eq_append_getElem hk, List.map_append]; rfl
/-- a row of the call's own that holds orders -/
def OwnO (w0 w : World) (v : Value) (l : List Od) : Prop := ∃ cells, Own w 47 10 v l.length cells ∧ Each (OdR w0) 10 cells l
theorem OwnO.nil (w0 w : World) : OwnO w0 w (.slice none 0 0) [] := ⟨[], Own.nil _ _ _, Each.nilO w0⟩
theorem OwnO.ods {w0 w : World} {A : Option Addr} {m c : Nat} {l : List Od} (h : OwnO w0 w (.slice A m c) l) : OdsS w0 w (fun k => (Value.slice A m c).ownBlock = some k) A l := by
  obtain ⟨cells, ho, hE⟩ := h
  exact ⟨cells, ho.rd, hE⟩
theorem OwnO.form {w0 w : World} {v : Value} {l : List Od} (h : OwnO w0 w v l) : ∃ A c, v = .slice A l.length c ∧ l.length ≤ c ∧ c ≤ maxLen := by
  obtain ⟨cells, ho, _⟩ := h
  exact ho.form
/-- what few hands back -/
theorem OwnO.ret {w0 w w' : World} {A : Option Addr} {c : Nat} {l : List Od} (h : OwnO w0 w' (.slice A l.length c) l) (hf : Fr No w w') (hn : Newer w.heap.size none (Value.slice A l.length c).ownBlock) : OdsS w0 w' (fun k => w.heap.size ≤ k) A l :=
  h.ods.more fun k hk => newer_none hn k hk
def FeRel (w0 w : World) (l : List Od) (n : Nat) (lv iv : Value) (wr : World) : Prop :=
  ∃ k : Nat, k ≤ l.length ∧ k ≤ n ∧ iv = .int .i64 k ∧ OwnO w0 wr lv (fewO l k) ∧ Fr No w wr ∧ Newer w.heap.size none lv.ownBlock
def FewRet (w0 w : World) (l : List Od) (e : Ending) (w' : World) : Prop := ∃ A c, e = .returned (.slice A l.length c) ∧ OdsS w0 w' (fun k => w.heap.size ≤ k) A l ∧ l.length ≤ c ∧ c ≤ maxLen ∧ Fr No w w'
set_option maxRecDepth 100000 in
set_option maxHeartbeats 4000000 in
theorem few10_any (w0 w : World) (F : Nat → Prop) (A : Option Addr) (c : Nat) (l : List Od) (n : Nat) (hl : OdsS w0 w F A l) (hlc : l.length ≤ c) (hcm : c ≤ maxLen) (hn : n ≤ 1000) :
    Calls Tryz.prog 11 #[.slice A l.length c, .int .i64 (n : Int)] w (FewRet w0 w (fewO l n)) := by
  have HL := Lib.hid hl
  have HCM := Lib.hid hcm
  have hlm : l.length ≤ 9223372036854775807 := by unfold maxLen at hcm; omega
  clear hl hcm
  go_enter Tryz.func11, Tryz.ntmps11
  go_wp2
  go_loopw [5, 6] (fun lv iv wr => FeRel w0 w l n lv iv wr) (fun _ iv _ => l.length - (intOf iv).toNat)
  case atStart => exact ⟨0, Nat.zero_le _, Nat.zero_le _, rfl, OwnO.nil _ _, Fr.refl _ _, .inl rfl⟩
  case round =>
    obtain ⟨k, hk, hkl, rfl, hown, hfr, hnew⟩ := hrel
    have hk62 : (k : Int) ≤ 9223372036854775807 := by omega
    by_cases hlt : k < l.length
    · by_cases hkn : k < n
      · obtain ⟨ad, v, rfl, _, hok, hg, hL, q0, q1, q2, q3, q4, q5, q6, q7, q8, q9⟩ := (HL.out.fr hfr (fun _ _ _ h => h)).at_ k hlt
        obtain ⟨B, d, rfl, hd1, hd2⟩ := hL.form
        have E : Hid (fewO l (k + 1) = fewO l k ++ [l[k].few8]) := fewO_succ l k hlt
        have HO : Hid (OdR w0 (l[k].few8.cs (.slice B (min l[k].legs.length 8) d)) l[k].few8) := ⟨_, rfl, hok, fun g h => hg g (List.mem_of_mem_take h), hL.take 8⟩
        have hlk : (fewO l k).length = k := by rw [fewO_length]; omega
        obtain ⟨cells, ho, hE⟩ := hown
        have HE := Lib.hid hE
        have hX : Hid ((fewO l k).length + 1 ≤ maxLen ∧ ((fewO l k).length + 1) * 120 ≤ 140737488355328) := by
          rw [hlk]
          refine ⟨?_, ?_⟩ <;> (try simp only [maxLen]) <;> omega
        have HLK := Lib.hid hlk
        have hcs : Hid (l[k].few8.cs (.slice B (min l[k].legs.length 8) d) = [.int .i64 l[k].cl, .int .i64 l[k].sq, .int .i64 l[k].kd, .string l[k].acct, .string l[k].peer, .int .i64 l[k].sum, .slice B (min l[k].legs.length 8) d, .int .i64 l[k].per, .int .i64 l[k].hold, .string l[k].note]) := rfl
        generalize l[k].few8.cs (.slice B (min l[k].legs.length 8) d) = CS at *
        generalize l[k].few8 = of_ at *
        clear hok hg hL hE hlk hk62 hk
        generalize l[k].legs = L at *
        generalize l[k].cl = cl at *
        generalize l[k].sq = sq at *
        generalize l[k].kd = kd at *
        generalize l[k].acct = acct at *
        generalize l[k].peer = peer at *
        generalize l[k].sum = sum at *
        generalize l[k].per = per at *
        generalize l[k].hold = hold at *
        generalize l[k].note = note at *
        have hmn : (min (L.length : Int) 8).toNat = min L.length 8 := by omega
        have hmx : 0 ≤ min (L.length : Int) 8 ∧ min (L.length : Int) 8 ≤ (d : Int) := ⟨by omega, by omega⟩
        have hkni : (k : Int) < (n : Int) := by omega
        go_wp2_with (at_builtin; refine wpList_app _ rfl (.tmp 31) (.tmp 33) 22 22 rfl elO ((ho.alloc _).alloc _) rfl (Src.of_new (cs := #[.int .i64 cl, .int .i64 sq, .int .i64 kd, .string acct, .string peer, .int .i64 sum, .slice B (min L.length 8) d, .int .i64 per, .int .i64 hold, .string note]) (t := 47) (wr.heap.size + 1) (by have h := heap_alloc_new (wr.alloc (.cells #[.int .i64 cl, .int .i64 sq, .int .i64 kd, .string acct, .string peer, .int .i64 sum, .slice B (min L.length 8) d, .int .i64 per, .int .i64 hold, .string note] 47)) (.cells #[.int .i64 cl, .int .i64 sq, .int .i64 kd, .string acct, .string peer, .int .i64 sum, .slice B (min L.length 8) d, .int .i64 per, .int .i64 hold, .string note] 47); rw [World.size_alloc] at h; exact h) Tryz.underlying22 rfl (by simp [Value.oneCell'])) rfl hX.out.1 hX.out.2 ?_; intro v1 w3 hown3 hfr3 hnew3)
        go_roundw
        case rel =>
          refine ⟨k + 1, by omega, by omega, by go_num, ?_, ?_, ?_⟩
          · rw [E.out]
            have hq := hcs.out
            subst hq
            exact ⟨_, by rw [List.length_append]; exact hown3, Each.snocO HE.out rfl HO.out⟩
          · exact fr_no ((hfr.alloc _).alloc _) hnew hfr3
          · exact hnew.trans (Newer.of hnew3) (by have := hfr.size; simp; omega)
        case measure => simp [intOf]; omega
      · have hkni : ¬ (k : Int) < (n : Int) := by omega
        have hkn' : k = n := by omega
        subst hkn'
        obtain ⟨A1, c1, rfl, hl1, hm1⟩ := OwnO.form hown
        have HR := Lib.hid (OwnO.ret hown hfr hnew)
        have HFR := Lib.hid hfr
        clear hown hfr hnew
        go_wp2
        go_ret
        exact ⟨_, _, rfl, HR.out, hl1, hm1, HFR.out⟩
    · obtain rfl : k = l.length := by omega
      have he : fewO l l.length = fewO l n := by
        unfold fewO
        rw [List.take_length, List.take_of_length_le hkl]
      rw [he] at hown
      obtain ⟨A1, c1, rfl, hl1, hm1⟩ := OwnO.form hown
      have HR := Lib.hid (OwnO.ret hown hfr hnew)
      have HFR := Lib.hid hfr
      clear hown hfr hnew he
      by_cases hkn : l.length < n
      · have hkni : (l.length : Int) < (n : Int) := by omega
        go_wp2
        go_ret
        exact ⟨_, _, rfl, HR.out, hl1, hm1, HFR.out⟩
      · have hkni : ¬ (l.length : Int) < (n : Int) := by omega
        go_wp2
        go_ret
        exact ⟨_, _, rfl, HR.out, hl1, hm1, HFR.out⟩
def Tr : Nat → Prop := fun _ => True
theorem OwnN.ls {B : Nat} {w : World} {A : Option Addr} {c : Nat} {l : List Od} (h : OwnN B w (.slice A l.length c) l) (hn : l.length ≤ 1000000) (hs : ∀ o ∈ l, o.legs.length ≤ 100000) : Ls w Tr A c l := by
  obtain ⟨A2, c2, e, h1, h2⟩ := h.form
  injection e with e1 e2 e3
  subst e1 e3
  exact ⟨h.ods.more fun _ _ => trivial, hn, h1, hs⟩
theorem odr_one {w : World} (cs : List Value) (o : Od) (h : OdR w cs o) : ∀ y ∈ cs, y.oneCell' = true := by
  obtain ⟨v, h1, h2, h3, h4⟩ := h
  exact odrf_one cs o ⟨v, h1, h2, h3, h4⟩
end Go.Proofs.YtnphncemghfkbaaGreat

namespace Go.My
set_option linter.unusedSimpArgs false
set_option linter.unusedVariables false
set_option linter.unusedSectionVars false

section
open Classical
variable {α : Type} {κ : Type} [DecidableEq κ]

theorem snoc_ind {P : List α → Prop} (h0 : P []) (hs : ∀ l o, P l → P (l ++ [o])) (l : List α) : P l := by
  have h : ∀ r : List α, P r.reverse := by
    intro r
    induction r with
    | nil => exact h0
    | cons o r ih => rw [List.reverse_cons]; exact hs _ _ ih
  have := h l.reverse
  rwa [List.reverse_reverse] at this

/-- the highest level of those that clash with o -/
def topOf (cl : α → α → Bool) (o : α) : List (α × Nat) → Nat
  | [] => 0
  | p :: P => max (if cl p.1 o then p.2 else 0) (topOf cl o P)
/-- each element with its level -/
def lev (cl : α → α → Bool) (l : List α) : List (α × Nat) := l.foldl (fun P o => P ++ [(o, topOf cl o P + 1)]) []

variable {idf : α → κ} {cl : α → α → Bool}

theorem topOf_append (o : α) (P Q : List (α × Nat)) : topOf cl o (P ++ Q) = max (topOf cl o P) (topOf cl o Q) := by
  induction P with
  | nil => simp [topOf]
  | cons p P ih => simp only [List.cons_append, topOf, ih]; omega
theorem topOf_ge {o x : α} {m : Nat} {P : List (α × Nat)} (h : (x, m) ∈ P) (hc : cl x o = true) : m ≤ topOf cl o P := by
  induction P with
  | nil => cases h
  | cons p P ih =>
    rw [topOf]
    rcases List.mem_cons.1 h with e | h
    · subst e; simp only [hc, if_true]; omega
    · have := ih h; omega
theorem topOf_got (o : α) (P : List (α × Nat)) : topOf cl o P = 0 ∨ ∃ x, (x, topOf cl o P) ∈ P ∧ cl x o = true := by
  induction P with
  | nil => exact .inl rfl
  | cons p P ih =>
    rw [topOf]
    by_cases hc : cl p.1 o = true
    · rw [if_pos hc]
      by_cases hm : topOf cl o P ≤ p.2
      · rw [show max p.2 (topOf cl o P) = p.2 by omega]
        exact .inr ⟨p.1, List.mem_cons_self, hc⟩
      · rw [show max p.2 (topOf cl o P) = topOf cl o P by omega]
        rcases ih with h | ⟨x, hx, h⟩
        · omega
        · exact .inr ⟨x, List.mem_cons_of_mem _ hx, h⟩
    · rw [if_neg hc, show max 0 (topOf cl o P) = topOf cl o P by omega]
      exact ih.imp id fun ⟨x, hx, h⟩ => ⟨x, List.mem_cons_of_mem _ hx, h⟩
theorem lev_nil : lev cl ([] : List α) = [] := rfl
theorem lev_snoc (l : List α) (o : α) : lev cl (l ++ [o]) = lev cl l ++ [(o, topOf cl o (lev cl l) + 1)] := by
  unfold lev; rw [List.foldl_append]; rfl
theorem lev_fst (l : List α) : (lev cl l).map (·.1) = l := by
  induction l using snoc_ind with
  | h0 => rfl
  | hs l o ih => rw [lev_snoc, List.map_append, ih]; rfl
theorem lev_length (l : List α) : (lev cl l).length = l.length := by
  have := congrArg List.length (lev_fst (cl := cl) l)
  rwa [List.length_map] at this
theorem lev_pre (l r : List α) : ∃ t, lev cl (l ++ r) = lev cl l ++ t := by
  induction r using snoc_ind with
  | h0 => exact ⟨[], by simp⟩
  | hs r o ih =>
    obtain ⟨t, ht⟩ := ih
    exact ⟨t ++ [(o, topOf cl o (lev cl (l ++ r)) + 1)], by rw [← List.append_assoc, lev_snoc, ← List.append_assoc, ht]⟩
theorem lev_take (l : List α) (k : Nat) : (lev cl l).take k = lev cl (l.take k) := by
  by_cases hk : k ≤ l.length
  · obtain ⟨t, ht⟩ := lev_pre (cl := cl) (l.take k) (l.drop k)
    rw [List.take_append_drop] at ht
    rw [ht, List.take_append_of_le_length (by rw [lev_length, List.length_take]; omega), List.take_of_length_le (by rw [lev_length, List.length_take]; omega)]
  · rw [List.take_of_length_le (by rw [lev_length]; omega), List.take_of_length_le (by omega)]
theorem lev_mem {l : List α} {o : α} {n : Nat} (h : (o, n) ∈ lev cl l) : o ∈ l := by
  have := List.mem_map_of_mem (f := Prod.fst) h
  rwa [show (lev cl l).map Prod.fst = l from lev_fst l] at this
theorem lev_ex {l : List α} {o : α} (h : o ∈ l) : ∃ n, (o, n) ∈ lev cl l := by
  rw [← lev_fst (cl := cl) l] at h
  obtain ⟨⟨x, n⟩, hx, rfl⟩ := List.mem_map.1 h
  exact ⟨n, hx⟩
theorem lev_uniq {l : List α} (hn : l.Nodup) {o : α} {m n : Nat} (h : (o, m) ∈ lev cl l) (k : (o, n) ∈ lev cl l) : m = n := by
  have hn' : ((lev cl l).map (·.1)).Nodup := by rw [lev_fst]; exact hn
  generalize lev cl l = P at *
  induction P with
  | nil => cases h
  | cons p P ih =>
    rw [List.map_cons, List.nodup_cons] at hn'
    rcases List.mem_cons.1 h with e | h
    · rcases List.mem_cons.1 k with e' | k
      · subst e; exact (Prod.mk.inj e').2.symm
      · exact absurd (by rw [← e]; exact List.mem_map.2 ⟨_, k, rfl⟩) hn'.1
    · rcases List.mem_cons.1 k with e' | k
      · exact absurd (by rw [← e']; exact List.mem_map.2 ⟨_, h, rfl⟩) hn'.1
      · exact ih h k hn'.2
/-- a level is one more than the highest of those ahead that clash -/
theorem lev_spec {l : List α} (hn : l.Nodup) {o : α} {n : Nat} (h : (o, n) ∈ lev cl l) :
    1 ≤ n ∧ (∀ x m, (x, m) ∈ lev cl l → bef x o l → cl x o = true → m < n) ∧ (n = 1 ∨ ∃ x, (x, n - 1) ∈ lev cl l ∧ bef x o l ∧ cl x o = true) := by
  induction l using snoc_ind with
  | h0 => cases h
  | hs l z ih =>
    have hn0 := hn
    rw [List.nodup_append] at hn
    obtain ⟨hnl, -, hz⟩ := hn
    have hzl : z ∉ l := fun k => hz z k z (by simp) rfl
    have hb : ∀ x, bef x z (l ++ [z]) ↔ x ∈ l := fun x => by
      rw [bef_append]
      exact ⟨fun h => by
        rcases h with h | ⟨h, _⟩ | h
        · exact absurd (bef_mem h).2 hzl
        · exact h
        · rcases h with ⟨_, h⟩ | h
          · cases h
          · exact absurd h (bef_nil _ _), fun h => .inr (.inl ⟨h, by simp⟩)⟩
    rw [lev_snoc, List.mem_append, List.mem_singleton] at h
    rcases h with h | h
    · have hol := lev_mem h
      have hoz : o ≠ z := by rintro rfl; exact hzl hol
      have hbo : ∀ x, bef x o (l ++ [z]) ↔ bef x o l := fun x => by
        rw [bef_append]
        exact ⟨fun h => by
          rcases h with h | ⟨_, h⟩ | h
          · exact h
          · exact absurd (List.mem_singleton.1 h) hoz
          · rcases h with ⟨_, h⟩ | h
            · cases h
            · exact absurd h (bef_nil _ _), .inl⟩
      obtain ⟨h1, h2, h3⟩ := ih hnl h
      refine ⟨h1, fun x m hx hbx hc => ?_, h3.imp id fun ⟨x, hx, hbx, hc⟩ => ⟨x, by rw [lev_snoc]; exact List.mem_append_left _ hx, (hbo x).2 hbx, hc⟩⟩
      have hbl := (hbo x).1 hbx
      rw [lev_snoc, List.mem_append, List.mem_singleton] at hx
      rcases hx with hx | hx
      · exact h2 x m hx hbl hc
      · cases hx; exact absurd (bef_mem hbl).1 hzl
    · obtain ⟨rfl, rfl⟩ : o = z ∧ n = topOf cl z (lev cl l) + 1 := by simpa using h
      refine ⟨by omega, fun x m hx hbx hc => ?_, ?_⟩
      · have hxl := (hb x).1 hbx
        rw [lev_snoc, List.mem_append, List.mem_singleton] at hx
        rcases hx with hx | hx
        · have := topOf_ge hx hc; omega
        · cases hx; exact absurd hxl hzl
      · rcases topOf_got (cl := cl) o (lev cl l) with h0 | ⟨x, hx, hc⟩
        · exact .inl (by omega)
        · refine .inr ⟨x, ?_, (hb x).2 (lev_mem hx), hc⟩
          rw [lev_snoc, Nat.add_sub_cancel]
          exact List.mem_append_left _ hx
theorem lev_le (hs : ∀ x y, cl x y = cl y x) {a b : List α} (h : Ak idf cl a b) : ∀ (n : Nat) (o : α) (m : Nat), (o, n) ∈ lev cl a → (o, m) ∈ lev cl b → n ≤ m := by
  intro n
  induction n using Nat.strongRecOn with
  | ind n ih =>
    intro o m ha hb
    obtain ⟨h1, h2, h3⟩ := lev_spec h.2.1.nodup ha
    obtain ⟨k1, k2, k3⟩ := lev_spec h.2.2.1.nodup hb
    rcases h3 with h3 | ⟨x, hx, hbx, hc⟩
    · omega
    · have hbb : bef x o b := (Ak.symm hs h).2.2.2.2 x o hbx hc (lev_mem hb)
      obtain ⟨m', hm'⟩ := lev_ex (cl := cl) (bef_mem hbb).1
      have := k2 x m' hm' hbb hc
      have := ih (n - 1) (by omega) x m' hx hm'
      omega
/-- lists that are alike have the same levels -/
theorem Ak.lev (hs : ∀ x y, cl x y = cl y x) {a b : List α} (h : Ak idf cl a b) (o : α) (n : Nat) : (o, n) ∈ lev cl a ↔ (o, n) ∈ lev cl b := by
  have h' := Ak.symm hs h
  constructor
  · intro k
    obtain ⟨m, hm⟩ := lev_ex (cl := cl) (h.2.2.2.1 o (lev_mem k))
    have := lev_le hs h n o m k hm
    have := lev_le hs h' m o n hm k
    obtain rfl : m = n := by omega
    exact hm
  · intro k
    obtain ⟨m, hm⟩ := lev_ex (cl := cl) (h'.2.2.2.1 o (lev_mem k))
    have := lev_le hs h' n o m k hm
    have := lev_le hs h m o n hm k
    obtain rfl : m = n := by omega
    exact hm
/-- no level is left out -/
theorem lev_down {l : List α} (hn : l.Nodup) {o : α} {n : Nat} (h : (o, n) ∈ lev cl l) {m : Nat} (h1 : 1 ≤ m) (hm : m ≤ n) : ∃ x, (x, m) ∈ lev cl l := by
  obtain ⟨d, rfl⟩ : ∃ d, n = m + d := ⟨n - m, by omega⟩
  induction d generalizing o with
  | zero => exact ⟨o, h⟩
  | succ d ih =>
    obtain ⟨k1, k2, k3⟩ := lev_spec hn h
    rcases k3 with k3 | ⟨x, hx, -, -⟩
    · omega
    · exact ih (o := x) (by rw [show m + d = m + (d + 1) - 1 by omega]; exact hx) (by omega)

/-- lists that rise are told by what they hold -/
theorem asc_ext {lt : κ → κ → Prop} (hi : ∀ k, ¬ lt k k) (ht : ∀ a b c, lt a b → lt b c → lt a c) : ∀ {l m : List α}, l.Pairwise (fun x y => lt (idf x) (idf y)) → m.Pairwise (fun x y => lt (idf x) (idf y)) → (∀ o, o ∈ l ↔ o ∈ m) → l = m := by
  intro l
  induction l with
  | nil =>
    intro m _ _ h
    cases m with
    | nil => rfl
    | cons y m => exact absurd ((h y).2 List.mem_cons_self) List.not_mem_nil
  | cons x l ih =>
    intro m hl hm h
    cases m with
    | nil => exact absurd ((h x).1 List.mem_cons_self) List.not_mem_nil
    | cons y m =>
      rw [List.pairwise_cons] at hl hm
      obtain rfl : x = y := by
        rcases List.mem_cons.1 ((h x).1 List.mem_cons_self) with e | h1
        · exact e
        · rcases List.mem_cons.1 ((h y).2 List.mem_cons_self) with e | h2
          · exact e.symm
          · exact absurd (ht _ _ _ (hl.1 y h2) (hm.1 x h1)) (hi _)
      have := ih hl.2 hm.2 fun o => by
        have ho := h o
        rw [List.mem_cons, List.mem_cons] at ho
        constructor
        · intro k
          rcases ho.1 (.inr k) with e | k'
          · subst e; exact absurd (hl.1 _ k) (hi _)
          · exact k'
        · intro k
          rcases ho.2 (.inr k) with e | k'
          · subst e; exact absurd (hm.1 _ k) (hi _)
          · exact k'
      rw [this]

variable (idf cl) in
/-- the steps of a list: as many as there are levels, each with what has this level, in the order of the Ids -/
def StepsR (lt : κ → κ → Prop) (l : List α) (S : List (List α)) : Prop :=
  (∀ o n, (o, n) ∈ lev cl l → n ≤ S.length) ∧ (∀ i (h : i < S.length), S[i] ≠ []) ∧ ∀ i (h : i < S.length), S[i].Pairwise (fun x y => lt (idf x) (idf y)) ∧ ∀ o, o ∈ S[i] ↔ (o, i + 1) ∈ lev cl l

variable {lt : κ → κ → Prop}
theorem StepsR.uniq (hi : ∀ k, ¬ lt k k) (ht : ∀ a b c, lt a b → lt b c → lt a c) {l : List α} {S T : List (List α)} (h : StepsR idf cl lt l S) (k : StepsR idf cl lt l T) : S = T := by
  have hle : ∀ {S T : List (List α)}, StepsR idf cl lt l S → StepsR idf cl lt l T → S.length ≤ T.length := by
    intro S T h k
    cases hS : S.length with
    | zero => omega
    | succ n =>
      have hp : n < S.length := by omega
      obtain ⟨x, hx⟩ := List.exists_mem_of_ne_nil _ (h.2.1 n hp)
      exact k.1 x (n + 1) (((h.2.2 n hp).2 x).1 hx)
  apply List.ext_getElem (by have := hle h k; have := hle k h; omega)
  intro i h1 h2
  exact asc_ext (idf := idf) hi ht (h.2.2 i h1).1 (k.2.2 i h2).1 fun o => ((h.2.2 i h1).2 o).trans ((k.2.2 i h2).2 o).symm
theorem StepsR.ak (hs : ∀ x y, cl x y = cl y x) {a b : List α} (hab : Ak idf cl a b) {S : List (List α)} (h : StepsR idf cl lt a S) : StepsR idf cl lt b S :=
  ⟨fun o n k => h.1 o n ((hab.lev hs o n).2 k), h.2.1, fun i hi => ⟨(h.2.2 i hi).1, fun o => ((h.2.2 i hi).2 o).trans (hab.lev hs o (i + 1))⟩⟩
theorem bef_flatten {S : List (List α)} {i j : Nat} (hi : i < S.length) (hj : j < S.length) (hij : i < j) {x y : α} (hx : x ∈ S[i]) (hy : y ∈ S[j]) : bef x y S.flatten := by
  have e : S = S.take j ++ S.drop j := (List.take_append_drop j S).symm
  rw [e, List.flatten_append, bef_append]
  refine .inr (.inl ⟨List.mem_flatten.2 ⟨S[i], List.mem_take_iff_getElem.2 ⟨i, by omega, rfl⟩, hx⟩, List.mem_flatten.2 ⟨S[j], ?_, hy⟩⟩)
  rw [List.drop_eq_getElem_cons hj]
  exact List.mem_cons_self
theorem StepsR.mem {l : List α} (hn : l.Nodup) {S : List (List α)} (h : StepsR idf cl lt l S) (o : α) : o ∈ S.flatten ↔ o ∈ l := by
  rw [List.mem_flatten]
  constructor
  · rintro ⟨s, hs, ho⟩
    obtain ⟨i, hi, rfl⟩ := List.mem_iff_getElem.1 hs
    exact lev_mem (((h.2.2 i hi).2 o).1 ho)
  · intro ho
    obtain ⟨n, hn'⟩ := lev_ex (cl := cl) ho
    have h1 := (lev_spec hn hn').1
    have h2 := h.1 o n hn'
    refine ⟨S[n - 1]'(by omega), List.getElem_mem _, ((h.2.2 (n - 1) (by omega)).2 o).2 ?_⟩
    rw [show n - 1 + 1 = n by omega]
    exact hn'
/-- what the steps lay out is alike the list -/
theorem StepsR.lay (hs : ∀ x y, cl x y = cl y x) (hi : ∀ k, ¬ lt k k) {l : List α} (hl : Rt idf l) {S : List (List α)} (h : StepsR idf cl lt l S) : Ak idf cl l S.flatten := by
  have hn := hl.nodup
  have hR : Rt idf S.flatten := by
    unfold Rt List.Nodup
    rw [List.pairwise_map, List.pairwise_flatten]
    constructor
    · intro s hs'
      obtain ⟨i, hi', rfl⟩ := List.mem_iff_getElem.1 hs'
      exact (h.2.2 i hi').1.imp fun {x y} (hxy : lt (idf x) (idf y)) (e : idf x = idf y) => hi (idf y) (by rw [e] at hxy; exact hxy)
    · rw [List.pairwise_iff_getElem]
      intro i j hi' hj hij x hx y hy e
      have h1 := ((h.2.2 i hi').2 x).1 hx
      have h2 := ((h.2.2 j hj).2 y).1 hy
      obtain rfl := hl.inj (lev_mem h1) (lev_mem h2) e
      have := lev_uniq hn h1 h2
      omega
  have hm := StepsR.mem hn h
  have hlen : l.length = S.flatten.length := by
    have h1 := (nodup_len hn fun x hx => (hm x).2 hx).1
    have h2 := (nodup_len hR.nodup fun x hx => (hm x).1 hx).1
    omega
  refine ⟨hlen, hl, hR, fun o ho => (hm o).2 ho, fun x o hb hc ho => ?_⟩
  have hxl := (hm x).1 (bef_mem hb).1
  rcases bef_total hxl ho (bef_ne hR.nodup hb) with hlo | hlo
  · exact hlo
  · exfalso
    obtain ⟨m, hm'⟩ := lev_ex (cl := cl) hxl
    obtain ⟨n, hn'⟩ := lev_ex (cl := cl) ho
    have h1 := (lev_spec hn hm').2.1 o n hn' hlo (by rw [hs]; exact hc)
    have p1 := (lev_spec hn hm').1
    have p2 := (lev_spec hn hn').1
    have q1 := h.1 x m hm'
    have q2 := h.1 o n hn'
    refine bef_anti hR.nodup hb (bef_flatten (i := n - 1) (j := m - 1) (by omega) (by omega) (by omega) (((h.2.2 (n - 1) (by omega)).2 o).2 ?_) (((h.2.2 (m - 1) (by omega)).2 x).2 ?_))
    · rw [show n - 1 + 1 = n by omega]; exact hn'
    · rw [show m - 1 + 1 = m by omega]; exact hm'
/-- the steps of what the steps lay out are these steps -/
theorem StepsR.again (hs : ∀ x y, cl x y = cl y x) (hi : ∀ k, ¬ lt k k) {l : List α} (hl : Rt idf l) {S : List (List α)} (h : StepsR idf cl lt l S) : StepsR idf cl lt S.flatten S :=
  StepsR.ak hs (h.lay hs hi hl) h
/-- the same steps just if they are alike -/
theorem StepsR.iff (hs : ∀ x y, cl x y = cl y x) (hi : ∀ k, ¬ lt k k) (ht : ∀ a b c, lt a b → lt b c → lt a c) {a b : List α} (ha : Rt idf a) (hb : Rt idf b) {S T : List (List α)} (h : StepsR idf cl lt a S) (k : StepsR idf cl lt b T) : S = T ↔ Ak idf cl a b := by
  constructor
  · rintro rfl
    exact (h.lay hs hi ha).trans (Ak.symm hs (k.lay hs hi hb))
  · intro hab
    exact StepsR.uniq hi ht (StepsR.ak hs hab h) k
/-- no two of a step clash -/
theorem StepsR.apart (hs : ∀ x y, cl x y = cl y x) (hi : ∀ k, ¬ lt k k) {l : List α} (hn : l.Nodup) {S : List (List α)} (h : StepsR idf cl lt l S) {i j k : Nat} (hi' : i < S.length) (hjk : j < k) (hk : k < S[i].length) : cl (S[i][j]'(by omega)) S[i][k] = false := by
  have hx := ((h.2.2 i hi').2 (S[i][j]'(by omega))).1 (List.getElem_mem _)
  have hy := ((h.2.2 i hi').2 S[i][k]).1 (List.getElem_mem _)
  have hlt := List.pairwise_iff_getElem.1 (h.2.2 i hi').1 j k (by omega) hk hjk
  have hne : S[i][j]'(by omega) ≠ S[i][k] := fun e => hi _ (by rw [e] at hlt; exact hlt)
  cases hc : cl (S[i][j]'(by omega)) S[i][k] with
  | false => rfl
  | true =>
    rcases bef_total (lev_mem hx) (lev_mem hy) hne with hb | hb
    · have := (lev_spec hn hy).2.1 _ _ hx hb hc; omega
    · have := (lev_spec hn hx).2.1 _ _ hy hb (by rw [hs]; exact hc); omega
/-- what stands in a later step clashes with something of the step ahead -/
theorem StepsR.held {l : List α} (hn : l.Nodup) {S : List (List α)} (h : StepsR idf cl lt l S) {i : Nat} (h0 : 0 < i) (hi' : i < S.length) {o : α} (ho : o ∈ S[i]) : ∃ x ∈ S[i - 1]'(by omega), cl x o = true := by
  have hy := ((h.2.2 i hi').2 o).1 ho
  rcases (lev_spec hn hy).2.2 with e | ⟨x, hx, -, hc⟩
  · omega
  · exact ⟨x, ((h.2.2 (i - 1) (by omega)).2 x).2 (by rw [show i - 1 + 1 = i + 1 - 1 by omega]; exact hx), hc⟩
/-- a beginning's elements stand in the same step -/
theorem StepsR.begin {l r : List α} {S T : List (List α)} (h : StepsR idf cl lt l S) (k : StepsR idf cl lt (l ++ r) T) : S.length ≤ T.length ∧ ∀ i (hi : i < S.length) (hj : i < T.length), ∀ o ∈ S[i], o ∈ T[i] := by
  obtain ⟨t, ht⟩ := lev_pre (cl := cl) l r
  constructor
  · cases hS : S.length with
    | zero => omega
    | succ n =>
      have hp : n < S.length := by omega
      obtain ⟨x, hx⟩ := List.exists_mem_of_ne_nil _ (h.2.1 n hp)
      exact k.1 x (n + 1) (by rw [ht]; exact List.mem_append_left _ (((h.2.2 n hp).2 x).1 hx))
  · intro i hi hj o ho
    exact ((k.2.2 i hj).2 o).2 (by rw [ht]; exact List.mem_append_left _ (((h.2.2 i hi).2 o).1 ho))
end
end Go.My

namespace Go.My
set_option linter.unusedSimpArgs false
set_option linter.unusedVariables false
set_option linter.unusedSectionVars false

section
open Classical
variable {α : Type} {κ : Type} [DecidableEq κ]
variable {idf : α → κ} {cl : α → α → Bool} {lt : κ → κ → Prop}

/-- the highest level -/
def topL : List (α × Nat) → Nat
  | [] => 0
  | p :: P => max p.2 (topL P)
theorem topL_append (P Q : List (α × Nat)) : topL (P ++ Q) = max (topL P) (topL Q) := by
  induction P with
  | nil => simp [topL]
  | cons p P ih => simp only [List.cons_append, topL, ih]; omega
theorem topL_ge {o : α} {n : Nat} {P : List (α × Nat)} (h : (o, n) ∈ P) : n ≤ topL P := by
  induction P with
  | nil => cases h
  | cons p P ih =>
    rw [topL]
    rcases List.mem_cons.1 h with e | h
    · subst e; simp only; omega
    · have := ih h; omega
theorem topL_got (P : List (α × Nat)) : topL P = 0 ∨ ∃ x, (x, topL P) ∈ P := by
  induction P with
  | nil => exact .inl rfl
  | cons p P ih =>
    rw [topL]
    by_cases hm : topL P ≤ p.2
    · rw [show max p.2 (topL P) = p.2 by omega]
      exact .inr ⟨p.1, List.mem_cons_self⟩
    · rw [show max p.2 (topL P) = topL P by omega]
      exact ih.imp id fun ⟨x, hx⟩ => ⟨x, List.mem_cons_of_mem _ hx⟩

variable (cl) in
/-- what has a level, as it stands in the list -/
def rowOf (l : List α) (i : Nat) : List α := ((lev cl l).filter (fun p => p.2 == i + 1)).map (·.1)
theorem mem_rowOf {l : List α} {i : Nat} {o : α} : o ∈ rowOf cl l i ↔ (o, i + 1) ∈ lev cl l := by
  unfold rowOf
  rw [List.mem_map]
  constructor
  · rintro ⟨⟨x, n⟩, h, rfl⟩
    rw [List.mem_filter] at h
    obtain ⟨h, hn⟩ := h
    have : n = i + 1 := by simpa using hn
    subst this
    exact h
  · intro h
    exact ⟨_, List.mem_filter.2 ⟨h, by simp⟩, rfl⟩
theorem rowOf_snoc (l : List α) (o : α) (i : Nat) : rowOf cl (l ++ [o]) i = if topOf cl o (lev cl l) = i then rowOf cl l i ++ [o] else rowOf cl l i := by
  unfold rowOf
  rw [lev_snoc, List.filter_append, List.map_append]
  by_cases h : topOf cl o (lev cl l) = i
  · rw [if_pos h]
    simp [h]
  · rw [if_neg h]
    simp [h]
theorem rowOf_nil (i : Nat) : rowOf cl ([] : List α) i = [] := rfl
/-- rows, each sorted, are the steps -/
theorem StepsR.of {l : List α} (hn : l.Nodup) {S : List (List α)} (hS : S.length = topL (lev cl l)) (h : ∀ i (hi : i < S.length), S[i].Pairwise (fun x y => lt (idf x) (idf y)) ∧ S[i].Perm (rowOf cl l i)) : StepsR idf cl lt l S := by
  have hm : ∀ i (hi : i < S.length) o, o ∈ S[i] ↔ (o, i + 1) ∈ lev cl l := fun i hi o => ((h i hi).2.mem_iff).trans mem_rowOf
  refine ⟨fun o n k => by rw [hS]; exact topL_ge k, fun i hi e => ?_, fun i hi => ⟨(h i hi).1, hm i hi⟩⟩
  rcases topL_got (lev cl l) with h0 | ⟨x, hx⟩
  · omega
  · obtain ⟨y, hy⟩ := lev_down hn hx (m := i + 1) (by omega) (by omega)
    have := (hm i hi y).2 hy
    rw [e] at this
    cases this
theorem StepsR.length {l : List α} {S : List (List α)} (h : StepsR idf cl lt l S) : S.length = topL (lev cl l) := by
  have h1 : topL (lev cl l) ≤ S.length := by
    rcases topL_got (lev cl l) with h0 | ⟨x, hx⟩
    · omega
    · exact h.1 _ _ hx
  cases hS : S.length with
  | zero => omega
  | succ n =>
    have hp : n < S.length := by omega
    obtain ⟨x, hx⟩ := List.exists_mem_of_ne_nil _ (h.2.1 n hp)
    have := topL_ge (((h.2.2 n hp).2 x).1 hx)
    omega

theorem lev_pos {l : List α} {o : α} {n : Nat} (h : (o, n) ∈ lev cl l) : 1 ≤ n := by
  induction l using snoc_ind with
  | h0 => cases h
  | hs l z ih =>
    rw [lev_snoc, List.mem_append, List.mem_singleton] at h
    rcases h with h | h
    · exact ih h
    · cases h; omega
/-- nothing ahead clashes with it -/
theorem topOf_zero {l : List α} {o : α} : topOf cl o (lev cl l) = 0 ↔ ∀ x ∈ l, cl x o = false := by
  constructor
  · intro h x hx
    cases hc : cl x o with
    | false => rfl
    | true =>
      obtain ⟨n, hn⟩ := lev_ex (cl := cl) hx
      have := topOf_ge hn hc
      have := lev_pos hn
      omega
  · intro h
    rcases topOf_got (cl := cl) o (lev cl l) with h0 | ⟨x, hx, hc⟩
    · exact h0
    · rw [h x (lev_mem hx)] at hc; cases hc

variable (cl) in
/-- those that nothing ahead clashes with -/
def freeL (l : List α) : List α := rowOf cl l 0
variable (cl) in
/-- the others -/
def leftL (l : List α) : List α := ((lev cl l).filter (fun p => p.2 != 1)).map (·.1)
theorem freeL_snoc (l : List α) (o : α) : freeL cl (l ++ [o]) = if l.any (fun x => cl x o) then freeL cl l else freeL cl l ++ [o] := by
  unfold freeL
  rw [rowOf_snoc]
  by_cases h : topOf cl o (lev cl l) = 0
  · rw [if_pos h, if_neg]
    rw [List.any_eq_true]
    rintro ⟨x, hx, hc⟩
    rw [topOf_zero.1 h x hx] at hc; cases hc
  · rw [if_neg h, if_pos]
    rw [List.any_eq_true]
    apply Classical.byContradiction
    intro hno
    exact h (topOf_zero.2 fun x hx => by
      cases hc : cl x o with
      | false => rfl
      | true => exact absurd ⟨x, hx, hc⟩ hno)
theorem leftL_snoc (l : List α) (o : α) : leftL cl (l ++ [o]) = if l.any (fun x => cl x o) then leftL cl l ++ [o] else leftL cl l := by
  unfold leftL
  rw [lev_snoc, List.filter_append, List.map_append]
  by_cases h : topOf cl o (lev cl l) = 0
  · rw [if_neg]
    · simp [h]
    · rw [List.any_eq_true]
      rintro ⟨x, hx, hc⟩
      rw [topOf_zero.1 h x hx] at hc; cases hc
  · rw [if_pos]
    · simp [h]
    · rw [List.any_eq_true]
      apply Classical.byContradiction
      intro hno
      exact h (topOf_zero.2 fun x hx => by
        cases hc : cl x o with
        | false => rfl
        | true => exact absurd ⟨x, hx, hc⟩ hno)
theorem mem_leftL {l : List α} {o : α} : o ∈ leftL cl l ↔ ∃ n, n ≠ 1 ∧ (o, n) ∈ lev cl l := by
  unfold leftL
  rw [List.mem_map]
  constructor
  · rintro ⟨⟨x, n⟩, h, rfl⟩
    rw [List.mem_filter] at h
    obtain ⟨h, hn⟩ := h
    exact ⟨n, by simpa using hn, h⟩
  · rintro ⟨n, hn, h⟩
    exact ⟨_, List.mem_filter.2 ⟨h, by simpa using hn⟩, rfl⟩
theorem leftL_filter {l : List α} (hn : l.Nodup) : leftL cl l = l.filter fun o => decide ((o, 1) ∉ lev cl l) := by
  have h : ∀ P : List (α × Nat), (∀ p ∈ P, p ∈ lev cl l) → (P.filter (fun p => p.2 != 1)).map (·.1) = (P.map (·.1)).filter fun o => decide ((o, 1) ∉ lev cl l) := by
    intro P
    induction P with
    | nil => intro _; rfl
    | cons p P ih =>
      intro hP
      have hp := hP p List.mem_cons_self
      rw [List.map_cons, List.filter_cons, List.filter_cons, ← ih fun q hq => hP q (List.mem_cons_of_mem _ hq)]
      by_cases h1 : p.2 = 1
      · rw [if_neg (by simp [h1]), if_neg]
        rw [decide_eq_true_eq]
        intro k
        exact k (by rw [← h1]; exact hp)
      · rw [if_pos (by simp [h1]), if_pos]
        · rfl
        · rw [decide_eq_true_eq]
          intro hn'
          have := lev_uniq hn hn' hp
          omega
  have := h (lev cl l) fun p hp => hp
  rw [lev_fst] at this
  exact this
theorem leftL_nodup {l : List α} (hn : l.Nodup) : (leftL cl l).Nodup := by
  rw [leftL_filter hn]; exact hn.filter _
theorem leftL_rt {l : List α} (hl : Rt idf l) : Rt idf (leftL cl l) := by
  rw [leftL_filter hl.nodup]; exact hl.filter _
theorem leftL_bef {l : List α} (hn : l.Nodup) (x o : α) : bef x o (leftL cl l) ↔ bef x o l ∧ x ∈ leftL cl l ∧ o ∈ leftL cl l := by
  constructor
  · intro h
    refine ⟨?_, bef_mem h⟩
    rw [leftL_filter hn, bef_filter] at h
    exact h.1
  · rintro ⟨h, hx, ho⟩
    rw [leftL_filter hn] at hx ho ⊢
    rw [bef_filter]
    exact ⟨h, (List.mem_filter.1 hx).2, (List.mem_filter.1 ho).2⟩
theorem left_lev1 {l : List α} (hn : l.Nodup) : ∀ (n : Nat) (o : α) (m : Nat), (o, n) ∈ lev cl (leftL cl l) → (o, m) ∈ lev cl l → n + 1 ≤ m := by
  intro n
  induction n using Nat.strongRecOn with
  | ind n ih =>
    intro o m h k
    obtain ⟨h1, h2, h3⟩ := lev_spec (leftL_nodup hn) h
    obtain ⟨k1, k2, k3⟩ := lev_spec hn k
    rcases h3 with h3 | ⟨x, hx, hb, hc⟩
    · obtain ⟨m', hm', hk'⟩ := mem_leftL.1 (lev_mem h)
      have := lev_uniq hn k hk'
      omega
    · have hbl := ((leftL_bef hn x o).1 hb).1
      obtain ⟨mx, hmx⟩ := lev_ex (cl := cl) (bef_mem hbl).1
      have := ih (n - 1) (by omega) x mx hx hmx
      have := k2 x mx hmx hbl hc
      omega
theorem left_lev2 {l : List α} (hn : l.Nodup) : ∀ (m : Nat) (o : α) (n : Nat), (o, m) ∈ lev cl l → (o, n) ∈ lev cl (leftL cl l) → m ≤ n + 1 := by
  intro m
  induction m using Nat.strongRecOn with
  | ind m ih =>
    intro o n k h
    obtain ⟨h1, h2, h3⟩ := lev_spec (leftL_nodup hn) h
    obtain ⟨k1, k2, k3⟩ := lev_spec hn k
    rcases k3 with k3 | ⟨x, hx, hb, hc⟩
    · omega
    · by_cases hm : m - 1 = 1
      · omega
      · have hxl : x ∈ leftL cl l := mem_leftL.2 ⟨m - 1, hm, hx⟩
        obtain ⟨nx, hnx⟩ := lev_ex (cl := cl) hxl
        have hp := lev_pos hx
        have := ih (m - 1) (by omega) x nx hx hnx
        have := h2 x nx hnx ((leftL_bef hn x o).2 ⟨hb, hxl, lev_mem h⟩) hc
        omega
/-- what is left has levels that are one less -/
theorem left_lev {l : List α} (hn : l.Nodup) (o : α) (n : Nat) (h0 : 1 ≤ n) : (o, n) ∈ lev cl (leftL cl l) ↔ (o, n + 1) ∈ lev cl l := by
  constructor
  · intro h
    obtain ⟨m, hm', hm⟩ := mem_leftL.1 (lev_mem h)
    have := left_lev1 hn n o m h hm
    have := left_lev2 hn m o n hm h
    obtain rfl : m = n + 1 := by omega
    exact hm
  · intro h
    obtain ⟨m, hm⟩ := lev_ex (cl := cl) (mem_leftL.2 ⟨n + 1, by omega, h⟩)
    have := left_lev1 hn m o (n + 1) hm h
    have := left_lev2 hn (n + 1) o m h hm
    obtain rfl : m = n := by omega
    exact hm
/-- step by step: the free ones, sorted, and the steps of the others -/
theorem StepsR.peel {l : List α} (hn : l.Nodup) (hl : l ≠ []) {s : List α} (hs : s.Pairwise (fun x y => lt (idf x) (idf y))) (hm : ∀ o, o ∈ s ↔ o ∈ freeL cl l) {S : List (List α)} (h : StepsR idf cl lt (leftL cl l) S) : StepsR idf cl lt l (s :: S) := by
  refine ⟨fun o n k => ?_, fun i hi => ?_, fun i hi => ?_⟩
  · rw [List.length_cons]
    have := lev_pos k
    by_cases h1 : n = 1
    · omega
    · have := h.1 o (n - 1) ((left_lev hn o (n - 1) (by omega)).2 (by rw [show n - 1 + 1 = n by omega]; exact k))
      omega
  · cases i with
    | zero =>
      intro e
      obtain ⟨x, hx⟩ := List.exists_mem_of_ne_nil _ hl
      obtain ⟨n, hx'⟩ := lev_ex (cl := cl) hx
      obtain ⟨y, hy⟩ := lev_down hn hx' (m := 1) (by omega) (lev_pos hx')
      have : y ∈ s := (hm y).2 (mem_rowOf.2 hy)
      rw [List.getElem_cons_zero] at e
      rw [e] at this
      cases this
    | succ i => exact h.2.1 i (by rw [List.length_cons] at hi; omega)
  · cases i with
    | zero => exact ⟨hs, fun o => (hm o).trans mem_rowOf⟩
    | succ i =>
      rw [List.length_cons] at hi
      exact ⟨(h.2.2 i (by omega)).1, fun o => ((h.2.2 i (by omega)).2 o).trans (left_lev hn o (i + 1) (by omega))⟩
theorem StepsR.nil : StepsR idf cl lt ([] : List α) [] := ⟨fun o n h => (by cases h), fun i h => absurd h (Nat.not_lt_zero _), fun i h => absurd h (Nat.not_lt_zero _)⟩
theorem leftL_len {l : List α} (hl : l ≠ []) : (leftL cl l).length < l.length := by
  cases l with
  | nil => exact absurd rfl hl
  | cons o l =>
    obtain ⟨t, ht⟩ := lev_pre (cl := cl) [o] l
    rw [List.singleton_append] at ht
    have h0 : lev cl ([o] : List α) = [(o, 1)] := rfl
    have hlen := lev_length (cl := cl) (o :: l)
    unfold leftL
    rw [ht, h0, List.singleton_append, List.filter_cons, if_neg (by simp), List.length_map]
    have := List.length_filter_le (fun p : α × Nat => p.2 != 1) t
    rw [ht, h0, List.length_append, List.length_cons, List.length_cons, List.length_nil] at hlen
    rw [List.length_cons]
    omega

/-- one more, behind all others -/
theorem StepsR.more_len {l : List α} {o : α} {S T : List (List α)} (h : StepsR idf cl lt l S) (k : StepsR idf cl lt (l ++ [o]) T) : T.length = max S.length (topOf cl o (lev cl l) + 1) := by
  rw [h.length, k.length, lev_snoc, topL_append]
  simp [topL]
theorem StepsR.more_in {l : List α} {o : α} (hn : (l ++ [o]).Nodup) {T : List (List α)} (k : StepsR idf cl lt (l ++ [o]) T) {i : Nat} (hi : i < T.length) : o ∈ T[i] ↔ i = topOf cl o (lev cl l) := by
  have hol : (o, topOf cl o (lev cl l) + 1) ∈ lev cl (l ++ [o]) := by rw [lev_snoc]; exact List.mem_append_right _ List.mem_cons_self
  rw [(k.2.2 i hi).2 o]
  constructor
  · intro h
    have := lev_uniq hn h hol
    omega
  · rintro rfl
    exact hol
theorem StepsR.more_row (hi0 : ∀ k, ¬ lt k k) (ht : ∀ a b c, lt a b → lt b c → lt a c) {l : List α} {o : α} (hR : Rt idf (l ++ [o])) {S T : List (List α)} (h : StepsR idf cl lt l S) (k : StepsR idf cl lt (l ++ [o]) T) {i : Nat} (hi : i < T.length) (hj : i < S.length) : (T[i].filter fun x => decide (idf x ≠ idf o)) = S[i] := by
  refine asc_ext (idf := idf) (lt := lt) hi0 ht ((k.2.2 i hi).1.filter _) (h.2.2 i hj).1 fun x => ?_
  rw [List.mem_filter, (k.2.2 i hi).2 x, (h.2.2 i hj).2 x, lev_snoc, List.mem_append, List.mem_singleton, decide_eq_true_eq]
  have hno : ∀ y ∈ l, idf y ≠ idf o := by
    intro y hy e
    unfold Rt at hR
    rw [List.map_append, List.nodup_append] at hR
    exact hR.2.2 _ (List.mem_map_of_mem hy) _ (by simp) e
  constructor
  · rintro ⟨hx | hx, hne⟩
    · exact hx
    · cases hx; exact absurd rfl hne
  · intro hx
    exact ⟨.inl hx, hno x (lev_mem hx)⟩
/-- its step is the first one behind all that it clashes with -/
theorem StepsR.more_top {l : List α} {o : α} {S : List (List α)} (h : StepsR idf cl lt l S) : (∀ i (hi : i < S.length), ∀ x ∈ S[i], cl x o = true → i + 1 ≤ topOf cl o (lev cl l)) ∧ (topOf cl o (lev cl l) = 0 ∨ ∃ (hi : topOf cl o (lev cl l) - 1 < S.length), ∃ x ∈ S[topOf cl o (lev cl l) - 1], cl x o = true) := by
  refine ⟨fun i hi x hx hc => topOf_ge (((h.2.2 i hi).2 x).1 hx) hc, ?_⟩
  rcases topOf_got (cl := cl) o (lev cl l) with h0 | ⟨x, hx, hc⟩
  · exact .inl h0
  · have h1 := lev_pos hx
    have h2 := h.1 _ _ hx
    refine .inr ⟨by omega, x, ((h.2.2 _ (by omega)).2 x).2 ?_, hc⟩
    rw [show topOf cl o (lev cl l) - 1 + 1 = topOf cl o (lev cl l) by omega]
    exact hx
end
end Go.My

namespace Go.My
set_option linter.unusedSimpArgs false
set_option linter.unusedVariables false
set_option linter.unusedSectionVars false

section
variable {α : Type} (cl : α → α → Bool)
/-- the levels -/
def levN (l : List α) : List Nat := (lev cl l).map (·.2)
theorem levN_length (l : List α) : (levN cl l).length = l.length := by unfold levN; rw [List.length_map, lev_length]
/-- the highest level of those of the first j that clash with the one at i -/
def topN (l : List α) (i j : Nat) : Nat := match l[i]? with
  | some o => topOf cl o ((lev cl l).take j)
  | none => 0
/-- the row: the levels of the first i, then t, then nothing -/
def lvA (l : List α) (i : Nat) (t : Int) : List Int := (List.range l.length).map fun j => if j < i then (((levN cl l)[j]?.getD 0 : Nat) : Int) else if j = i then t else 0
theorem lvA_length (l : List α) (i : Nat) (t : Int) : (lvA cl l i t).length = l.length := by unfold lvA; rw [List.length_map, List.length_range]
theorem lvA_get (l : List α) (i : Nat) (t : Int) (j : Nat) (hj : j < l.length) : (lvA cl l i t)[j]? = some (if j < i then (((levN cl l)[j]?.getD 0 : Nat) : Int) else if j = i then t else 0) := by
  unfold lvA
  rw [List.getElem?_map, List.getElem?_range hj]
  rfl
theorem lvA_set (l : List α) (i : Nat) (t u : Int) : (lvA cl l i t).set i u = lvA cl l i u := by
  apply List.ext_getElem?
  intro j
  by_cases hj : j < l.length
  · by_cases hij : i = j
    · subst hij
      rw [List.getElem?_set_self (by rw [lvA_length]; exact hj), lvA_get _ _ _ _ _ hj, if_neg (by omega), if_pos rfl]
    · rw [List.getElem?_set_ne hij, lvA_get _ _ _ _ _ hj, lvA_get _ _ _ _ _ hj]
      by_cases h : j < i
      · rw [if_pos h, if_pos h]
      · rw [if_neg h, if_neg h, if_neg (fun e => hij e.symm), if_neg (fun e => hij e.symm)]
  · rw [List.getElem?_eq_none (by rw [List.length_set, lvA_length]; omega), List.getElem?_eq_none (by rw [lvA_length]; omega)]
theorem lvA_zero (l : List α) : lvA cl l 0 0 = List.replicate l.length 0 := by
  apply List.ext_getElem?
  intro j
  by_cases hj : j < l.length
  · rw [lvA_get _ _ _ _ _ hj, if_neg (by omega), List.getElem?_replicate, if_pos hj]
    split <;> rfl
  · rw [List.getElem?_eq_none (by rw [lvA_length]; omega), List.getElem?_eq_none (by simp; omega)]
theorem lev_at (l : List α) (i : Nat) (hi : i < l.length) : (lev cl l)[i]? = some (l[i], topN cl l i i + 1) := by
  have h := lev_take (cl := cl) l (i + 1)
  rw [List.take_succ_eq_append_getElem hi, lev_snoc, ← lev_take] at h
  have h2 : ((lev cl l).take (i + 1))[i]? = (lev cl l)[i]? := by rw [List.getElem?_take, if_pos (by omega)]
  rw [← h2, h, List.getElem?_append_right (by rw [List.length_take, lev_length]; omega)]
  rw [List.length_take, lev_length, Nat.min_eq_left (by omega), Nat.sub_self]
  unfold topN
  rw [List.getElem?_eq_getElem hi]
  rfl
theorem levN_at (l : List α) (i : Nat) (hi : i < l.length) : (levN cl l)[i]? = some (topN cl l i i + 1) := by
  unfold levN
  rw [List.getElem?_map, lev_at cl l i hi]
  rfl
theorem lvA_next (l : List α) (i : Nat) (hi : i < l.length) : lvA cl l i ((topN cl l i i : Nat) + 1 : Int) = lvA cl l (i + 1) 0 := by
  apply List.ext_getElem?
  intro j
  by_cases hj : j < l.length
  · rw [lvA_get _ _ _ _ _ hj, lvA_get _ _ _ _ _ hj]
    by_cases h1 : j < i
    · rw [if_pos h1, if_pos (by omega)]
    · by_cases h2 : j = i
      · subst h2
        rw [if_neg h1, if_pos rfl, if_pos (by omega), levN_at cl l j hi]
        simp
      · rw [if_neg h1, if_neg h2, if_neg (by omega)]
        split <;> rfl
  · rw [List.getElem?_eq_none (by rw [lvA_length]; omega), List.getElem?_eq_none (by rw [lvA_length]; omega)]
theorem topN_zero (l : List α) (i : Nat) : topN cl l i 0 = 0 := by
  unfold topN
  split <;> rfl
theorem topN_succ (l : List α) (i j : Nat) (hi : i < l.length) (hj : j < l.length) : topN cl l i (j + 1) = max (topN cl l i j) (if cl l[j] l[i] then (levN cl l)[j]?.getD 0 else 0) := by
  have h1 := lev_at cl l j hj
  have hjl : j < (lev cl l).length := by rw [lev_length]; exact hj
  have h2 : (lev cl l)[j] = (l[j], topN cl l j j + 1) := by
    rw [List.getElem?_eq_getElem hjl] at h1
    exact Option.some.inj h1
  unfold topN
  rw [List.getElem?_eq_getElem hi]
  simp only
  rw [List.take_succ_eq_append_getElem hjl, topOf_append, h2, levN_at cl l j hj]
  simp [topOf]
theorem lvA_end (l : List α) (t : Int) : lvA cl l l.length t = (levN cl l).map fun n : Nat => (n : Int) := by
  apply List.ext_getElem?
  intro j
  by_cases hj : j < l.length
  · rw [lvA_get _ _ _ _ _ hj, if_pos hj, List.getElem?_map, levN_at cl l j hj]
    rfl
  · rw [List.getElem?_eq_none (by rw [lvA_length]; omega), List.getElem?_eq_none (by rw [List.length_map, levN_length]; omega)]
theorem levN_le (l : List α) : ∀ n ∈ levN cl l, 1 ≤ n ∧ n ≤ l.length := by
  induction l using snoc_ind with
  | h0 => intro n h; cases h
  | hs l o ih =>
    intro n h
    unfold levN at h
    rw [lev_snoc, List.map_append, List.mem_append] at h
    rw [List.length_append, List.length_singleton]
    rcases h with h | h
    · have := ih n h; omega
    · simp only [List.map_cons, List.map_nil, List.mem_singleton] at h
      subst h
      refine ⟨by omega, ?_⟩
      rcases topOf_got (cl := cl) o (lev cl l) with h0 | ⟨x, hx, _⟩
      · omega
      · have := ih (topOf cl o (lev cl l)) (List.mem_map_of_mem hx)
        omega
/-- the highest of numbers -/
def maxN : List Nat → Nat
  | [] => 0
  | n :: l => max n (maxN l)
theorem topL_levN (l : List α) : topL (lev cl l) = maxN (levN cl l) := by
  have h : ∀ P : List (α × Nat), topL P = maxN (P.map (·.2)) := by
    intro P
    induction P with
    | nil => rfl
    | cons p P ih => rw [topL, List.map_cons, maxN, ih]
  exact h _
theorem maxN_append (l m : List Nat) : maxN (l ++ m) = max (maxN l) (maxN m) := by
  induction l with
  | nil => simp [maxN]
  | cons n l ih => simp only [List.cons_append, maxN, ih]; omega
theorem maxN_le {l : List Nat} {b : Nat} (h : ∀ n ∈ l, n ≤ b) : maxN l ≤ b := by
  induction l with
  | nil => exact Nat.zero_le _
  | cons n l ih =>
    rw [maxN]
    have := h n List.mem_cons_self
    have := ih fun m hm => h m (List.mem_cons_of_mem _ hm)
    omega
theorem le_maxN {l : List Nat} {n : Nat} (h : n ∈ l) : n ≤ maxN l := by
  induction l with
  | nil => cases h
  | cons m l ih =>
    rw [maxN]
    rcases List.mem_cons.1 h with rfl | h
    · omega
    · have := ih h; omega
/-- rows of a beginning: the one at k goes behind its row -/
theorem rowOf_take (l : List α) (k : Nat) (hk : k < l.length) (i : Nat) : rowOf cl (l.take (k + 1)) i = if topN cl l k k = i then rowOf cl (l.take k) i ++ [l[k]] else rowOf cl (l.take k) i := by
  rw [List.take_succ_eq_append_getElem hk, rowOf_snoc]
  unfold topN
  rw [List.getElem?_eq_getElem hk, lev_take]
end
end Go.My
