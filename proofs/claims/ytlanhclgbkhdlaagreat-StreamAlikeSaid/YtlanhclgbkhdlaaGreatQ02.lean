/- What walks of this project hand back. Of no package. Contracts of package coins: sums (what charts need of it). Contracts of package chart: names. Contracts of package chart: a chart in memory; New, Open. Contracts of package chart: what is done with one account. Contracts of package chart: the deeds themselves. -/
import Derived.Test.YtlanhclgbkhdlaaGreatChecked
import Derived.Test.YtlanhclgbkhdlaaGreatQ01
import Derived.RegionCalls
import Derived.Shelf.Spec.BitsCarry
import Derived.Laws.RangeAny
import Derived.Deep.DeepCutAuto
import Derived.Maps.OwnSet
import Derived.Maps.OwnOps
import Derived.Deep.RegionHeld3
import Derived.Deep.DrawnRows
import Derived.Deep.QuietTactic
import Derived.BigQuiet
namespace Go.Proofs.YtlanhclgbkhdlaaGreat
open Go.RowKit Go.My
set_option linter.unusedSimpArgs false
set_option linter.unusedVariables false

/-- the block of the value that is handed back is the old one, or a new one -/
def Newer (H : Nat) (g0 g : Option Nat) : Prop := g = g0 ∨ ∃ k, g = some k ∧ H ≤ k
theorem Newer.trans {H H' : Nat} {a b c : Option Nat} (h : Newer H a b) (k : Newer H' b c) (hH : H ≤ H') : Newer H a c := by
  rcases k with rfl | ⟨k, rfl, hk⟩
  · exact h
  · exact .inr ⟨k, rfl, by omega⟩
theorem Newer.of {H : Nat} {a b : Option Nat} (h : b = a ∨ b = some H) : Newer H a b := by
  rcases h with rfl | rfl
  · exact .inl rfl
  · exact .inr ⟨_, rfl, Nat.le_refl _⟩
theorem newer_none {H : Nat} {g : Option Nat} (h : Newer H none g) : ∀ k, g = some k → H ≤ k := by
  intro k hk
  rcases h with rfl | ⟨j, rfl, hj⟩
  · cases hk
  · injection hk with hk; omega

/-- handed back: a row of the call's own that holds xs -/
def RetOwn (w : World) (e : TypeId) (size : Nat) (g0 : Option Nat) (n : Nat) (xs : List Value) (en : Ending) (w' : World) : Prop :=
  ∃ v', en = .returned v' ∧ Own w' e size v' n xs ∧ Fr (AtO g0) w w' ∧ Newer w.heap.size g0 v'.ownBlock

theorem fr_newer {g0 g : Option Nat} {a b c : World} (h : Fr (AtO g0) a b) (hn : Newer a.heap.size g0 g) (k : Fr (AtO g) b c) : Fr (AtO g0) a c :=
  h.trans' k fun i hi hlt => by
    rcases hn with rfl | ⟨k, rfl, hk⟩
    · exact hi
    · simp only [AtO, Option.some.injEq] at hi
      omega
theorem fr_no {g : Option Nat} {a b c : World} (h : Fr No a b) (hn : Newer a.heap.size none g) (k : Fr (AtO g) b c) : Fr No a c :=
  h.trans' k fun i hi hlt => by
    rcases hn with rfl | ⟨k, rfl, hk⟩
    · simp [AtO] at hi
    · simp only [AtO, Option.some.injEq] at hi
      omega
/-- nothing that was there has changed -/
theorem fr_at_none {a b : World} (h : Fr (AtO none) a b) : Fr No a b := h.mono fun _ _ h => by simp [AtO] at h

/-- returns true, and has changed nothing that was there -/
def RetTrue (w : World) (e : Ending) (w' : World) : Prop := e = .returned (.bool true) ∧ Below w.heap.size w w'

theorem below_fr_no {B : Nat} {a b c : World} (h : Below B a b) (k : Fr No b c) (hB : B ≤ b.heap.size) : Below B a c := h.trans (k.belowNo.mono hB)
/-- what is changed lies at B or behind -/
theorem below_fr {B : Nat} {a b c : World} {S : Nat → Prop} (h : Below B a b) (k : Fr S b c) (hB : B ≤ b.heap.size) (hs : ∀ i, S i → B ≤ i) : Below B a c :=
  h.trans (k.below_at hB fun i hi hS => by have := hs i hS; omega)
end Go.Proofs.YtlanhclgbkhdlaaGreat

namespace Go.Proofs.YtlanhclgbkhdlaaGreat
open Go.RowKit Go.My
set_option linter.unusedSimpArgs false
set_option linter.unusedVariables false

/-- a sum, or that it is none -/
def two64 (x : Int) : Value := .tuple #[.int .i64 (sumV x), .int .i64 (sumN x : Int)]
theorem two64_in {x : Int} (h : In64 x) : two64 x = .tuple #[.int .i64 x, .int .i64 0] := by unfold two64; rw [sumV_in h, sumN_in h]; rfl
theorem two64_out {x : Int} (h : ¬ In64 x) : two64 x = .tuple #[.int .i64 0, .int .i64 2] := by unfold two64; rw [sumV_out h, sumN_out h]; rfl

theorem add_any (a b : Int) (w : World) (ha : In64 a) (hb : In64 b) :
    Calls Tryz.prog 130 #[.int .i64 a, .int .i64 b] w fun e w' => e = .returned (two64 (a + b)) ∧ w = w' := by
  have HA := Lib.hid ha
  have HB := Lib.hid hb
  clear ha hb
  have hw := Lib.hid (wrap64_eq (a + b))
  by_cases h1 : 0 ≤ b <;> by_cases h2 : a ≤ wrap64 (a + b)
  all_goals
    go_enter Tryz.func130, Tryz.ntmps130
    go_wp2
    go_ret2
    have h3 := HA.out
    have h4 := HB.out
    have h5 := hw.out
    unfold In64 at h3 h4
    first
      | (rw [two64_in (by unfold In64; omega)]
         exact ⟨by rw [show wrap64 (a + b) = a + b by omega]; rfl, rfl⟩)
      | (rw [two64_out (by unfold In64; omega)]
         exact ⟨rfl, rfl⟩)
theorem less_any (a b : Int) (w : World) (ha : In64 a) (hb : In64 b) :
    Calls Tryz.prog 134 #[.int .i64 a, .int .i64 b] w fun e w' => e = .returned (two64 (a - b)) ∧ w = w' := by
  have HA := Lib.hid ha
  have HB := Lib.hid hb
  clear ha hb
  have hw := Lib.hid (wrap64_eq (a - b))
  by_cases h1 : 0 ≤ b <;> by_cases h2 : wrap64 (a - b) ≤ a
  all_goals
    go_enter Tryz.func134, Tryz.ntmps134
    go_wp2
    go_ret2
    have h3 := HA.out
    have h4 := HB.out
    have h5 := hw.out
    unfold In64 at h3 h4
    first
      | (rw [two64_in (by unfold In64; omega)]
         exact ⟨by rw [show wrap64 (a - b) = a - b by omega]; rfl, rfl⟩)
      | (rw [two64_out (by unfold In64; omega)]
         exact ⟨rfl, rfl⟩)
/-- bits.Add64, over Int -/
theorem add64 (x y c : Int) (hx : 0 ≤ x) (hx' : x < 18446744073709551616) (hy : 0 ≤ y) (hy' : y < 18446744073709551616) (hc0 : 0 ≤ c) (hc : c ≤ 1) (w : World) : (callFunc 140 #[.int .u64 x, .int .u64 y, .int .u64 c]).run Tryz.prog w =
    .ok (.value (.tuple #[.int .u64 ((x + y + c) % 18446744073709551616), .int .u64 ((x + y + c) / 18446744073709551616)])) w := by
  obtain ⟨x, rfl⟩ := Int.eq_ofNat_of_zero_le hx
  obtain ⟨y, rfl⟩ := Int.eq_ofNat_of_zero_le hy
  obtain ⟨c, rfl⟩ := Int.eq_ofNat_of_zero_le hc0
  rw [run_callFunc_extern Tryz.func140 (by kernel_rfl) (by kernel_rfl) (by kernel_rfl) (e := add64Entry) (by kernel_rfl), run_add64 x y c (by omega) (by omega) (by omega) (by omega)]
  simp only [Result.andThen]

theorem add64_0 (x y : Int) (hx : 0 ≤ x) (hx' : x < 18446744073709551616) (hy : 0 ≤ y) (hy' : y < 18446744073709551616) (w : World) : (callFunc 140 #[.int .u64 x, .int .u64 y, .int .u64 0]).run Tryz.prog w =
    .ok (.value (.tuple #[.int .u64 ((x + y) % 18446744073709551616), .int .u64 ((x + y) / 18446744073709551616)])) w := by
  simpa using add64 x y 0 hx hx' hy hy' (Int.le_refl 0) (by decide) w
def TotRel (w : World) (l : List Int) (hv lv iv : Value) (wr : World) : Prop :=
  ∃ k : Nat, k ≤ l.length ∧ iv = .int .i64 k ∧ hv = .int .u64 ((total (l.take k) / 18446744073709551616) % 18446744073709551616) ∧ lv = .int .u64 (total (l.take k) % 18446744073709551616) ∧ wr = w

set_option maxHeartbeats 1000000 in
theorem total_any (F : Nat → Prop) (A : Option Addr) (c : Nat) (l : List Int) (w : World) (hr : Rd w F 1 A l.length (is_ l)) (hI : ∀ x ∈ l, In64 x) (hl : l.length ≤ 1000000) :
    Calls Tryz.prog 132 #[.slice A l.length c] w fun e w' => e = .returned (two64 (total l)) ∧ w = w' := by
  have HR := Lib.hid hr
  have HI := Lib.hid hI
  clear hr hI
  go_enter Tryz.func132, Tryz.ntmps132
  go_wp2
  go_loopw [4, 5, 11] (fun hv lv iv wr => TotRel w l hv lv iv wr) (fun _ _ iv _ => l.length - (intOf iv).toNat)
  case atStart => exact ⟨0, Nat.zero_le _, rfl, rfl, rfl, rfl⟩
  case round =>
    obtain ⟨k, hk, rfl, rfl, rfl, rfl⟩ := hrel
    by_cases hlt : k < l.length
    · obtain ⟨ad, u, rfl, _, hx, hc⟩ := HR.out.at_ hlt
      rw [is_get l k hlt] at hx
      injection hx with hx
      subst hx
      have htk : l.take (k + 1) = l.take k ++ [l[k]] := List.take_succ_eq_append_getElem hlt
      have hts : total (l.take (k + 1)) = total (l.take k) + l[k] := by rw [htk, total_append]; simp [total_cons, total_nil]
      have HT := Lib.hid hts
      have HX := Lib.hid (HI.out l[k] (List.getElem_mem hlt))
      clear htk hts
      generalize l[k] = x at *
      generalize total (l.take k) = S at *
      have hx := HX.out
      unfold In64 at hx
      obtain ⟨xm, hxm⟩ : ∃ xm, xm = IntKind.u64.wrap x := ⟨_, rfl⟩
      have hxw : xm = x % 18446744073709551616 := by rw [hxm, IntKind.wrap_u64]
      obtain ⟨xh, hxh⟩ : ∃ xh, xh = IntKind.u64.wrap (x / 9223372036854775808) := ⟨_, rfl⟩
      have hxhw : xh = (x / 9223372036854775808) % 18446744073709551616 := by rw [hxh, IntKind.wrap_u64]
      obtain ⟨lo, hlo⟩ : ∃ lo, lo = S % 18446744073709551616 := ⟨_, rfl⟩
      obtain ⟨hi, hhi⟩ : ∃ hi, hi = (S / 18446744073709551616) % 18446744073709551616 := ⟨_, rfl⟩
      rw [← hlo, ← hhi]
      have A1 := fun W => add64_0 lo xm (by omega) (by omega) (by omega) (by omega) W
      have A2 := fun W => add64 hi xh ((lo + xm) / 18446744073709551616) (by omega) (by omega) (by omega) (by omega) (by omega) (by omega) W
      have HEND : Hid (TotRel wr l (.int .u64 ((hi + xh + (lo + xm) / 18446744073709551616) % 18446744073709551616)) (.int .u64 ((lo + xm) % 18446744073709551616)) (.int .i64 ((k : Int) + 1)) wr) := by
        refine ⟨k + 1, by omega, by go_num, ?_, ?_, rfl⟩
        · rw [HT.out]
          congr 1
          omega
        · rw [HT.out]
          congr 1
          omega
      rw [hxm] at A1 A2 HEND
      rw [hxh] at A2 HEND
      clear hlo hhi hxw hxhw hx hxm hxh HT
      go_wp2
      exact ⟨HEND.out, by simp [intOf]; omega⟩
    · obtain rfl : k = l.length := by omega
      rw [List.take_length]
      have hb := total_bound l HI.out
      have hw1 := wrap64_eq ((total l / 18446744073709551616) % 18446744073709551616)
      have hw2 := wrap64_eq (total l % 18446744073709551616)
      have HS : Hid (∃ S, S = total l) := ⟨_, rfl⟩
      obtain ⟨S, hS⟩ := HS.out
      rw [← hS] at hb hw1 hw2 ⊢
      have q1 : -1000000 ≤ S / 18446744073709551616 ∧ S / 18446744073709551616 ≤ 1000000 := by omega
      have q2 : wrap64 (S / 18446744073709551616 % 18446744073709551616) = S / 18446744073709551616 := by omega
      have q3 : wrap64 (S % 18446744073709551616) / 9223372036854775808 = if S % 18446744073709551616 < 9223372036854775808 then 0 else -1 := by
        split <;> omega
      by_cases hin : In64 S
      · have e1 : wrap64 (S % 18446744073709551616) = S := by unfold In64 at hin; omega
        have e2 : (wrap64 (S / 18446744073709551616 % 18446744073709551616) != wrap64 (S % 18446744073709551616) / 9223372036854775808) = false := by
          rw [bne_eq_false_iff_eq, q2, q3]
          unfold In64 at hin
          split <;> omega
        have HIN := Lib.hid hin
        have HSS := Lib.hid hS
        have E1 := Lib.hid e1
        clear hin hb hw1 hw2 hS e1 q1 q2 q3
        go_wp2
        go_ret2
        rw [← HSS.out, two64_in HIN.out]
        refine ⟨?_, rfl⟩
        have := E1.out
        simp [this]
      · have e2 : (wrap64 (S / 18446744073709551616 % 18446744073709551616) != wrap64 (S % 18446744073709551616) / 9223372036854775808) = true := by
          rw [bne_iff_ne, q2, q3]
          unfold In64 at hin
          split <;> omega
        have HIN := Lib.hid hin
        have HSS := Lib.hid hS
        clear hin hb hw1 hw2 hS q1 q2 q3
        go_wp2
        go_ret2
        rw [← HSS.out, two64_out HIN.out]
        exact ⟨rfl, rfl⟩
end Go.Proofs.YtlanhclgbkhdlaaGreat

namespace Go.Proofs.YtlanhclgbkhdlaaGreat
open Go.RowKit Go.My
set_option linter.unusedSimpArgs false
set_option linter.unusedVariables false

/-- a sign of a name -/
def okc (c : UInt8) : Bool := decide ((97 ≤ c.toNat ∧ c.toNat ≤ 122) ∨ (48 ≤ c.toNat ∧ c.toNat ≤ 57))
def nameB (l : List UInt8) : Bool := l.all okc && (decide (1 ≤ l.length) && decide (l.length ≤ 8))
theorem name_bad (l : List UInt8) (k : Nat) (c : UInt8) (hk : l[k]? = some c) (h : okc c = false) : nameB l = false := by
  unfold nameB
  have : l.all okc = false := by
    rw [List.all_eq_false]
    exact ⟨c, List.mem_of_getElem? hk, by rw [h]; simp⟩
  rw [this]
  rfl
theorem name_end (l : List UInt8) (h : l.all okc = true) : nameB l = (decide (1 ≤ l.length) && decide (l.length ≤ 8)) := by unfold nameB; rw [h]; rfl
theorem take_ok (s : ByteArray) (k : Nat) (h : k < s.size) (hk : (s.data.toList.take k).all okc = true) (hc : okc s[k] = true) : (s.data.toList.take (k + 1)).all okc = true := by
  have : s.data.toList.take (k + 1) = s.data.toList.take k ++ [s[k]] := by
    rw [List.take_succ_eq_append_getElem (by simpa using h)]; rfl
  rw [this, List.all_append, hk]
  simp [hc]
theorem at_k (s : ByteArray) (k : Nat) (h : k < s.size) : s.data.toList[k]? = some s[k] := by
  rw [List.getElem?_eq_getElem (by simpa using h)]; rfl

def NmRel (s : ByteArray) (w wr : World) : Prop := ∃ k : Nat, k ≤ s.size ∧ wr = w.iter s k ∧ (s.data.toList.take k).all okc = true

set_option maxHeartbeats 1000000 in
theorem name_any (s : ByteArray) (w : World) (hs : s.size ≤ maxLen) : Calls Tryz.prog 30 #[.string s] w fun e w' => e = .returned (.bool (nameB s.data.toList)) ∧ Below w.heap.size w w' := by
  have hsz : s.size ≤ 9223372036854775807 := by simp only [maxLen] at hs; omega
  have hbel : Hid (∀ k, Below w.heap.size w (w.iter s k)) := fun k => (Below.refl _ _).alloc (Nat.le_refl _) _
  have hlen : Hid (s.data.toList.length = s.size) := by show _ = _; simp
  clear hs
  go_enter Tryz.func30, Tryz.ntmps30
  go_wp2
  go_loopw [4] (fun _ wr => NmRel s w wr) (fun _ wr => s.size - wr.iterPos w.heap.size)
  case atStart => exact ⟨0, Nat.zero_le _, rfl, by simp⟩
  case round =>
    obtain ⟨k, hk, rfl, hall⟩ := hrel
    have HALL := Lib.hid hall
    clear hall
    by_cases hlt : k < s.size
    · have hb256 : s[k].toNat < 256 := UInt8.toNat_lt _
      have HAT := Lib.hid (at_k s k hlt)
      by_cases ha : s[k].toNat < 128
      · have hnx := fun ty => run_next_ascii (P := Tryz.prog) w s k ty hlt ha
        by_cases hc : (97 ≤ s[k].toNat ∧ s[k].toNat ≤ 122) ∨ (48 ≤ s[k].toNat ∧ s[k].toNat ≤ 57)
        · have hok : Hid ((s.data.toList.take (k + 1)).all okc = true) := take_ok s k hlt HALL.out (by unfold okc; exact decide_eq_true hc)
          rcases hc with ⟨c1, c2⟩ | ⟨c1, c2⟩
          · have d1 : ¬ ((s[k].toNat : Int) < 97) := by omega
            have d2 : ¬ (122 < (s[k].toNat : Int)) := by omega
            go_wp2
            exact ⟨⟨k + 1, hlt, rfl, hok.out⟩, by simp only [World.iterPos_iter]; omega⟩
          · have d1 : ((s[k].toNat : Int) < 97) := by omega
            have d3 : ¬ ((s[k].toNat : Int) < 48) := by omega
            have d4 : ¬ (57 < (s[k].toNat : Int)) := by omega
            go_wp2
            exact ⟨⟨k + 1, hlt, rfl, hok.out⟩, by simp only [World.iterPos_iter]; omega⟩
        · have hbad : Hid (nameB s.data.toList = false) := name_bad _ k _ HAT.out (by unfold okc; exact decide_eq_false hc)
          by_cases c1 : s[k].toNat < 48
          · have d1 : ((s[k].toNat : Int) < 97) := by omega
            have d3 : ((s[k].toNat : Int) < 48) := by omega
            clear hc
            go_wp2
            go_ret
            exact ⟨by rw [hbad.out]; rfl, hbel.out _⟩
          · have d3 : ¬ ((s[k].toNat : Int) < 48) := by omega
            by_cases c2 : s[k].toNat < 97
            · have d1 : ((s[k].toNat : Int) < 97) := by omega
              have d4 : (57 < (s[k].toNat : Int)) := by omega
              clear hc
              go_wp2
              go_ret
              exact ⟨by rw [hbad.out]; rfl, hbel.out _⟩
            · have d1 : ¬ ((s[k].toNat : Int) < 97) := by omega
              have d2 : (122 < (s[k].toNat : Int)) := by omega
              have d4 : (57 < (s[k].toNat : Int)) := by omega
              clear hc
              go_wp2
              go_ret
              exact ⟨by rw [hbad.out]; rfl, hbel.out _⟩
      · have hbad : Hid (nameB s.data.toList = false) := name_bad _ k _ HAT.out (by unfold okc; exact decide_eq_false (by omega))
        have hnx := fun ty => run_next_any (P := Tryz.prog) w s k ty hlt
        obtain ⟨hd1, hd2⟩ := decode_high s k hlt (by omega)
        generalize (Utf8.decode s k).1 = r at *
        generalize (Utf8.decode s k).2 = wd at *
        have d1 : ¬ ((r : Int) < 97) := by omega
        have d2 : (122 < (r : Int)) := by omega
        have d3 : ¬ ((r : Int) < 48) := by omega
        have d4 : (57 < (r : Int)) := by omega
        go_wp2
        go_ret
        exact ⟨by rw [hbad.out]; rfl, hbel.out _⟩
    · obtain rfl : k = s.size := by omega
      have hend : Hid (nameB s.data.toList = (decide (1 ≤ s.size) && decide (s.size ≤ 8))) := by
        show _ = _
        rw [name_end, hlen.out]
        have h := HALL.out
        rwa [← hlen.out, List.take_length] at h
      have hnx := fun ty => run_next_end (P := Tryz.prog) w s s.size ty hlt
      by_cases e1 : 1 ≤ s.size
      · go_wp2
        go_ret
        refine ⟨?_, hbel.out _⟩
        rw [hend.out, decide_eq_true e1, Bool.true_and, show decide (s.size ≤ 8) = decide ((s.size : Int) ≤ 8) from by rw [decide_eq_decide]; omega]
        rfl
      · go_wp2
        go_ret
        exact ⟨by rw [hend.out, decide_eq_false e1]; rfl, hbel.out _⟩
end Go.Proofs.YtlanhclgbkhdlaaGreat

namespace Go.Proofs.YtlanhclgbkhdlaaGreat
open Go.RowKit Go.My Go.Maps
set_option linter.unusedSimpArgs false
set_option linter.unusedVariables false

theorem law : Keyed Tryz.prog 9 := string_keyed Tryz.underlying9
theorem zeroA (w : World) : (zeroValue 63).run Tryz.prog w = .ok (.agg #[.string ByteArray.empty, .int .i64 0, .int .i64 0, .int .i64 0]) w := by kernel_rfl
def noA : Ac := ⟨[], 0, 0, 0⟩
theorem noA_val : noA.val = .agg #[.string ByteArray.empty, .int .i64 0, .int .i64 0, .int .i64 0] := rfl

/-- block m is a map that holds just these accounts -/
def MpS (w : World) (m : Nat) (S : List Ac) : Prop := w.ownsMap Tryz.prog 9 acR m S.length (dOf S) ∧ Rise S
/-- a chart at p, its map at m -/
def ChS (w : World) (p m : Nat) (S : List Ac) : Prop := Blk w p 114 #[.map (some m)] ∧ MpS w m S

section
variable {w w' : World} {p m : Nat} {S S' : List Ac}
theorem owns_len {n : Nat} (h : w.ownsMap Tryz.prog 9 acR m n (dOf S)) : w.ownsMap Tryz.prog 9 acR m S.length (dOf S) := by
  obtain ⟨es, clock, hb, F, hs, hD⟩ := h
  refine ⟨es, clock, hb, F, ?_, hD⟩
  have h1 := size_dOf S
  rw [hD, Maps.size_eq, length_sorted, List.length_map] at h1
  simp at h1
  omega
theorem MpS.lt (h : MpS w m S) : m < w.heap.size := h.1.lt
theorem MpS.fr {F : Nat → Prop} (h : MpS w m S) (hf : Fr F w w') (hn : ¬ F m) : MpS w' m S := by
  obtain ⟨⟨es, clock, hb, r⟩, hr⟩ := h
  exact ⟨⟨es, clock, (hf.block m (Array.getElem?_eq_some_iff.1 hb).1 hn).trans hb, r⟩, hr⟩
theorem MpS.ne_ {g : Nat} {t : TypeId} {cs : Array Value} (h : MpS w m S) (hg : Blk w g t cs) : m ≠ g := by
  rintro rfl
  obtain ⟨⟨es, clock, hb, _⟩, _⟩ := h
  unfold Blk at hg
  rw [hb] at hg
  cases hg
theorem ChS.ne_ (h : ChS w p m S) : m ≠ p := h.2.ne_ h.1
theorem ChS.fr {F : Nat → Prop} (h : ChS w p m S) (hf : Fr F w w') (hp : ¬ F p) (hn : ¬ F m) : ChS w' p m S := ⟨h.1.fr hf hp, h.2.fr hf hn⟩
theorem ChS.no (h : ChS w p m S) (hf : Fr No w w') : ChS w' p m S := h.fr hf (fun h => h) (fun h => h)
theorem ChS.below {B : Nat} (h : ChS w p m S) (hb : Below B w w') (hp : p < B) (hm : m < B) : ChS w' p m S := by
  refine ⟨h.1.below hb hp, ?_⟩
  obtain ⟨⟨es, clock, hm1, r⟩, hr⟩ := h.2
  exact ⟨⟨es, clock, (hb.block m hm).trans hm1, r⟩, hr⟩
theorem key_mk (s : ByteArray) (hs : s.size ≤ maxLen) : keyOf Tryz.prog 9 (.string s) = some (.string s.data.toList) := Go.WideMaps.keyOf_string_mk Tryz.underlying9 hs
/-- a look, with ok -/
theorem MpS.look (h : MpS w m S) (s : ByteArray) (hs : s.size ≤ maxLen) :
    (Instr.lookup 112 (.map (some m)) (.string s) true).run Tryz.prog w = .ok (.tuple #[((getA S s.data.toList).getD noA).val, .bool (getA S s.data.toList).isSome]) w := by
  obtain ⟨v, ps, hrun, hv⟩ := h.1.look_ok law Tryz.underlying112 (zeroA w) (acR_val noA) (key_mk s hs)
  rw [has_dOf] at hrun
  rw [at_dOf] at hv
  cases hg : getA S s.data.toList with
  | none =>
    rw [hg] at hrun hv
    rw [acR_at hv] at hrun
    exact hrun
  | some a =>
    rw [hg] at hrun hv
    rw [acR_at hv] at hrun
    exact hrun
theorem MpS.look_none (h : MpS w m S) (s : ByteArray) (hs : s.size ≤ maxLen) (hg : getA S s.data.toList = none) :
    (Instr.lookup 112 (.map (some m)) (.string s) true).run Tryz.prog w = .ok (.tuple #[.agg #[.string ByteArray.empty, .int .i64 0, .int .i64 0, .int .i64 0], .bool false]) w := by
  have h1 := h.look s hs
  rw [hg] at h1
  exact h1
theorem MpS.look_some (h : MpS w m S) (s : ByteArray) (hs : s.size ≤ maxLen) (a : Ac) (hg : getA S s.data.toList = some a) :
    (Instr.lookup 112 (.map (some m)) (.string s) true).run Tryz.prog w = .ok (.tuple #[.agg #[.string ⟨a.name.toArray⟩, .int .i64 a.hv, .int .i64 a.st, .int .i64 a.lim], .bool true]) w := by
  have h1 := h.look s hs
  rw [hg] at h1
  exact h1
theorem MpS.len (h : MpS w m S) (ty : TypeId) : (Builtin.len_ #[112] ty #[.map (some m)]).run Tryz.prog w = .ok (.int .i64 (S.length : Int)) w := by
  have h1 := h.1.len Tryz.underlying112 ty
  rwa [size_dOf] at h1
/-- an account is laid into the map -/
theorem MpS.put (h : MpS w m S) (a : Ac) (hs : a.name.length ≤ maxLen) (hl : S.length < maxLen) :
    ∃ w', (Instr.mapUpdate 112 (.map (some m)) (.string ⟨a.name.toArray⟩) a.val).run Tryz.prog w = .ok () w' ∧ MpS w' m (putA a S) ∧ Fr (At1 m) w w' := by
  obtain ⟨w', hrun, hown, hg⟩ := h.1.update law Tryz.underlying112 hl (key_mk ⟨a.name.toArray⟩ hs) (acR_val a)
  have hown' : w'.ownsMap Tryz.prog 9 acR m (S.length + 1) (dOf (putA a S)) := by
    rw [← put_dOf]
    exact hown
  refine ⟨w', hrun, ⟨owns_len hown', rise_put a S h.2⟩, ⟨hg.os, hg.tape, hg.output, hg.size, fun k hk hn => hg.block k hk (fun e => hn ?_)⟩⟩
  injection e with e
theorem wpList_putA (w : World) {ops : Array Oper} {rest : List Oper} {o : Oper} {a : Act} {Q : Exit → Act → World → Prop} (hg : o.guard = none) (x y z : Operand) (hop : o.op = Op.mapUpdate 112 x y z)
    {b : Nat} {S : List Ac} (hx : a.eval x = .map (some b)) (h : MpS w b S) (A : Ac) (hy : a.eval y = .string ⟨A.name.toArray⟩) (hz : a.eval z = A.val) (hs : A.name.length ≤ maxLen) (hl : S.length < maxLen)
    (hK : ∀ w', MpS w' b (putA A S) → Fr (At1 b) w w' → wpList Tryz.prog ops Q rest (a.put o.dst undef) w') : wpList Tryz.prog ops Q (o :: rest) a w := by
  refine wpList_plain hg fun K' hK' => ?_
  obtain ⟨w', hrun, r1, r2⟩ := h.put A hs hl
  unfold Oper.wp
  simp [execOp, hop, hx, hy, hz, hrun, Result.andThen]
  exact hK' _ _ (hK w' r1 r2)
end

def MadeC (w : World) (e : Ending) (w' : World) : Prop := ∃ p m, e = .returned (.pointer (some ⟨p, 0, none⟩)) ∧ ChS w' p m [] ∧ Fr No w w' ∧ w.heap.size ≤ p ∧ w.heap.size ≤ m
theorem new_any (w : World) : Calls Tryz.prog 45 #[] w (MadeC w) := by
  have hmm := @run_makeMap Tryz.prog
  go_enter Tryz.func45, Tryz.ntmps45
  go_wp2
  go_ret
  have hbk := Blk.new (w.alloc (.map #[] 0)) 114 #[.map (some w.heap.size)]
  rw [World.size_alloc] at hbk
  refine ⟨_, w.heap.size, rfl, ⟨hbk, ?_⟩, ((Fr.refl _ _).alloc _).alloc _, by simp, by omega⟩
  have h : MpS (w.alloc (.map #[] 0)) w.heap.size [] := ⟨World.ownsMap_made _ _ _ _, List.Pairwise.nil⟩
  exact h.fr ((Fr.refl No _).alloc _) (fun h => h)

/-- what Open answers, and what is there then -/
def openE (S : List Ac) (nm : List UInt8) (lim : Int) : Int := if nameB nm = false ∨ lim < 0 then 1 else if (getA S nm).isSome then 7 else if 12 ≤ S.length then 5 else 0
def openS (S : List Ac) (nm : List UInt8) (lim : Int) : List Ac := if openE S nm lim = 0 then putA ⟨nm, 0, 0, lim⟩ S else S

set_option maxRecDepth 100000 in
set_option maxHeartbeats 2000000 in
theorem open_any (p m : Nat) (S : List Ac) (s : ByteArray) (lim : Int) (w : World) (h : ChS w p m S) (hs : s.size ≤ maxLen) (hlim : In64 lim) (hS : S.length ≤ 12) :
    Calls Tryz.prog 98 #[.pointer (some ⟨p, 0, none⟩), .string s, .int .i64 lim] w fun e w' => e = .returned (.int .i64 (openE S s.data.toList lim)) ∧ ChS w' p m (openS S s.data.toList lim) ∧ Fr (At1 m) w w' := by
  have HNM := Lib.hid (name_any s w hs)
  have HS := Lib.hid hs
  have HC := Lib.hid h
  have hpl := h.1.lt
  have hml := h.2.lt
  have HNE := Lib.hid h.ne_
  clear h hs hlim
  cases hn : nameB s.data.toList
  · have HE : Hid (openE S s.data.toList lim = 1 ∧ openS S s.data.toList lim = S) := by
      have h1 : openE S s.data.toList lim = 1 := by unfold openE; rw [if_pos (.inl hn)]
      exact ⟨h1, by unfold openS; rw [h1, if_neg (by decide)]⟩
    rw [hn] at HNM
    clear hn
    go_enter Tryz.func98, Tryz.ntmps98
    go_wp2_with (go_at_call 30; refine HNM.out.mono ?_; rintro e w1 ⟨rfl, hb1⟩)
    go_ret
    refine ⟨by rw [HE.out.1]; rfl, ?_, Fr.of_below hb1 _⟩
    rw [HE.out.2]
    exact HC.out.below hb1 hpl hml
  · rw [hn] at HNM
    by_cases hl : lim < 0
    · have HE : Hid (openE S s.data.toList lim = 1 ∧ openS S s.data.toList lim = S) := by
        have h1 : openE S s.data.toList lim = 1 := by unfold openE; rw [if_pos (.inr hl)]
        exact ⟨h1, by unfold openS; rw [h1, if_neg (by decide)]⟩
      clear hn
      go_enter Tryz.func98, Tryz.ntmps98
      go_wp2_with (go_at_call 30; refine HNM.out.mono ?_; rintro e w1 ⟨rfl, hb1⟩)
      go_ret
      refine ⟨by rw [HE.out.1]; rfl, ?_, Fr.of_below hb1 _⟩
      rw [HE.out.2]
      exact HC.out.below hb1 hpl hml
    · have hE1 : openE S s.data.toList lim = if (getA S s.data.toList).isSome then 7 else if 12 ≤ S.length then 5 else 0 := by
        unfold openE
        rw [if_neg (by rw [hn]; simp; omega)]
      clear hn
      go_enter Tryz.func98, Tryz.ntmps98
      go_wp2_with fail
      refine HNM.out.mono ?_
      rintro e w1 ⟨rfl, hb1⟩
      have hC1 := HC.out.below hb1 hpl hml
      have c0 := hC1.1.cell 0
      have f0 := hC1.1.frozen 0
      simp only [List.getElem?_toArray, List.getElem?_cons_zero] at c0
      have hml1 := hC1.2.lt
      have hpl1 := hC1.1.lt
      cases hg : getA S s.data.toList with
      | some a =>
        have hlk := hC1.2.look_some s HS.out a hg
        have HE : Hid (openE S s.data.toList lim = 7 ∧ openS S s.data.toList lim = S) := by
          have h1 : openE S s.data.toList lim = 7 := by rw [hE1, hg]; rfl
          exact ⟨h1, by unfold openS; rw [h1, if_neg (by decide)]⟩
        clear hg hE1
        go_wp2
        go_ret
        refine ⟨by rw [HE.out.1]; rfl, ?_, (Fr.of_below hb1 _).trans ((Fr.refl _ _).alloc _)⟩
        rw [HE.out.2]
        exact hC1.no ((Fr.refl _ _).alloc _)
      | none =>
        have hlk := hC1.2.look_none s HS.out hg
        have hlen := fun (o : Obj) ty => (hC1.no ((Fr.refl _ w1).alloc o)).2.len ty
        have HC2 := Lib.hid fun (o : Obj) => hC1.no ((Fr.refl _ w1).alloc o)
        have HF2 : Hid (∀ o : Obj, Fr (At1 m) w (w1.alloc o)) := fun o => (Fr.of_below hb1 _).trans ((Fr.refl _ _).alloc _)
        have hnil := fun W => run_eql_map_nil (P := Tryz.prog) W 112 _ _ (some m) Tryz.underlying112
        by_cases h12 : 12 ≤ S.length
        · have HE : Hid (openE S s.data.toList lim = 5 ∧ openS S s.data.toList lim = S) := by
            have h1 : openE S s.data.toList lim = 5 := by rw [hE1, hg, if_neg (by simp), if_pos h12]
            exact ⟨h1, by unfold openS; rw [h1, if_neg (by decide)]⟩
          have h12' : (12 : Int) ≤ (S.length : Int) := by omega
          clear hg hE1 h12
          go_wp2
          go_ret
          refine ⟨by rw [HE.out.1]; rfl, ?_, HF2.out _⟩
          rw [HE.out.2]
          exact HC2.out _
        · have HE : Hid (openE S s.data.toList lim = 0 ∧ openS S s.data.toList lim = putA ⟨s.data.toList, 0, 0, lim⟩ S) := by
            have h1 : openE S s.data.toList lim = 0 := by rw [hE1, hg, if_neg (by simp), if_neg h12]
            exact ⟨h1, by unfold openS; rw [h1, if_pos rfl]⟩
          have h12' : ¬ (12 : Int) ≤ (S.length : Int) := by omega
          have hmx : Hid (S.length < maxLen) := by show _ < _; unfold maxLen; omega
          clear hg hE1 h12
          go_wp2_with (at_mapUpdate; refine wpList_putA _ rfl (.tmp 48) (.tmp 49) (.tmp 52) rfl rfl (HC2.out _).2 ⟨s.data.toList, 0, 0, lim⟩ rfl rfl (by have h := HS.out; simpa using h) hmx.out ?_; intro w3 hm3 hf3)
          go_ret
          refine ⟨by rw [HE.out.1]; rfl, ?_, (HF2.out _).trans hf3⟩
          rw [HE.out.2]
          exact ⟨(HC2.out _).1.fr hf3 (fun h => HNE.out h.symm), hm3⟩
end Go.Proofs.YtlanhclgbkhdlaaGreat

namespace Go.Proofs.YtlanhclgbkhdlaaGreat
open Go.RowKit Go.My Go.Maps
set_option linter.unusedSimpArgs false
set_option linter.unusedVariables false
attribute [local go_sem ↓] Go.wp_at_zero Go.wp_at_succ

/-- an account lies at q -/
def AcB (w : World) (q : Nat) (a : Ac) : Prop := Blk w q 63 #[.string ⟨a.name.toArray⟩, .int .i64 a.hv, .int .i64 a.st, .int .i64 a.lim]

/-- what comes of a deed with one account -/
def ChRet (p m : Nat) (S : List Ac) (nm : List UInt8) (Fd : Nat → Prop) (R : Ac → Int → Ac → World → Prop) (w : World) (e : Ending) (w' : World) : Prop :=
  (getA S nm = none ∧ e = .returned (.int .i64 6) ∧ ChS w' p m S ∧ Fr No w w') ∨
  ∃ a n a', getA S nm = some a ∧ e = .returned (.int .i64 n) ∧ a'.name = nm ∧ ChS w' p m (if n = 0 then putA a' S else S) ∧ Fr (fun i => i = m ∨ Fd i) w w' ∧ R a n a' w'

set_option maxRecDepth 100000 in
set_option maxHeartbeats 2000000 in
theorem change_any (k : FuncId) (hk : ∀ args W, (callFunc k args).run Tryz.prog W = .ok (.enter k args) W) (c : Value) (p m : Nat) (S : List Ac) (s : ByteArray) (w : World) (h : ChS w p m S) (hs : s.size ≤ maxLen) (hS : S.length ≤ 12) (Fd : Nat → Prop) (R : Ac → Int → Ac → World → Prop)
    (hFp : ¬ Fd p) (hFm : ¬ Fd m) (hFl : ∀ i, Fd i → i < w.heap.size) (hR : ∀ a n a' W W', R a n a' W → Fr (At1 m) W W' → R a n a' W')
    (hdo : ∀ a W q, getA S s.data.toList = some a → Fr No w W → w.heap.size ≤ q → AcB W q a → Calls Tryz.prog k #[.pointer (some ⟨q, 0, none⟩), c] W fun e W' => ∃ n a', e = .returned (.int .i64 n) ∧ a'.name = a.name ∧ AcB W' q a' ∧ Fr (fun i => i = q ∨ Fd i) W W' ∧ R a n a' W') :
    Calls Tryz.prog 122 #[.pointer (some ⟨p, 0, none⟩), .string s, .func (.func k) #[] #[c]] w (ChRet p m S s.data.toList Fd R w) := by
  have HS := Lib.hid hs
  have HC := Lib.hid h
  have HNE := Lib.hid h.ne_
  have HR := Lib.hid hR
  have HDO := Lib.hid hdo
  have hpl := h.1.lt
  have hml := h.2.lt
  have c0 := h.1.cell 0
  simp only [List.getElem?_toArray, List.getElem?_cons_zero] at c0
  clear hs hR hdo
  cases hg : getA S s.data.toList with
  | none =>
    have hlk := h.2.look_none s HS.out hg
    have HG := Lib.hid hg
    clear h hg
    go_enter Tryz.func122, Tryz.ntmps122
    go_wp2
    go_ret
    exact .inl ⟨HG.out, rfl, HC.out.no ((Fr.refl _ _).alloc _), (Fr.refl _ _).alloc _⟩
  | some a =>
    have hlk := h.2.look_some s HS.out a hg
    have HG := Lib.hid hg
    have HNM := Lib.hid (getA_some hg).2
    clear h hg
    go_enter Tryz.func122, Tryz.ntmps122
    go_wp2_with fail
    refine (HDO.out a _ _ HG.out ((Fr.refl No w).alloc _) (Nat.le_refl _) (Blk.new _ _ _)).mono ?_
    rintro e w2 ⟨n, a', rfl, hnm, hq2, hf2, hR2⟩
    have hw02 : Fr (fun i => Fd i) w w2 := ((Fr.refl _ w).alloc _).trans' hf2 fun i hi hlt => by
      rcases hi with rfl | hi
      · omega
      · exact hi
    have hC2 : ChS w2 p m S := HC.out.fr hw02 hFp hFm
    have hnm2 : a'.name = s.data.toList := hnm.trans HNM.out
    have hql : w.heap.size < w2.heap.size := hq2.lt
    have hqm : ¬ m = w.heap.size := by omega
    have hqp : ¬ p = w.heap.size := by omega
    by_cases hn : n = 0
    · subst hn
      obtain ⟨nm', h', st', l'⟩ := a'
      simp only at hnm2
      subst hnm2
      have hC3 : ChS w2.drew p m S := hC2.no (Fr.refl _ _).drew
      obtain ⟨w3, hmu, hm3, hf3⟩ := hC3.2.put ⟨s.data.toList, h', st', l'⟩ (by have h := HS.out; simpa using h) (by unfold maxLen; omega)
      have hmu' : (Instr.mapUpdate 112 (.map (some m)) (.string s) (.agg #[.string s, .int .i64 h', .int .i64 st', .int .i64 l'])).run Tryz.prog w2.drew = .ok () w3 := hmu
      have p0 : w2.cell? ⟨p, 0, none⟩ = some (.map (some m)) := hC2.1.cell 0
      have q0 : w2.cell? ⟨w.heap.size, 0, none⟩ = some (.string s) := hq2.cell 0
      have q1 : w2.cell? ⟨w.heap.size, 1, none⟩ = some (.int .i64 h') := hq2.cell 1
      have q2 : w2.cell? ⟨w.heap.size, 2, none⟩ = some (.int .i64 st') := hq2.cell 2
      have q3 : w2.cell? ⟨w.heap.size, 3, none⟩ = some (.int .i64 l') := hq2.cell 3
      have p0' : w3.cell? ⟨p, 0, none⟩ = some (.map (some m)) := ((hC3.1).fr hf3 (fun h => HNE.out h.symm)).cell 0
      have hq3 : Blk w3 w.heap.size 63 #[.string s, .int .i64 h', .int .i64 st', .int .i64 l'] := (show Blk w2.drew w.heap.size 63 #[.string s, .int .i64 h', .int .i64 st', .int .i64 l'] from hq2).fr hf3 (fun h => hqm h.symm)
      have r0 : w3.cell? ⟨w.heap.size, 0, none⟩ = some (.string s) := hq3.cell 0
      have r1 : w3.cell? ⟨w.heap.size, 1, none⟩ = some (.int .i64 h') := hq3.cell 1
      have r2 : w3.cell? ⟨w.heap.size, 2, none⟩ = some (.int .i64 st') := hq3.cell 2
      have r3 : w3.cell? ⟨w.heap.size, 3, none⟩ = some (.int .i64 l') := hq3.cell 3
      have HEND : Hid (ChRet p m S s.data.toList Fd R w (.returned (.int .i64 0)) w3) := .inr ⟨a, 0, ⟨s.data.toList, h', st', l'⟩, HG.out, rfl, rfl, ⟨hC3.1.fr hf3 (fun h => HNE.out h.symm), by rw [if_pos rfl]; exact hm3⟩, by
        have h1 : Fr (fun i => i = m ∨ Fd i) w w2.drew := (hw02.mono fun _ _ h => .inr h).drew
        exact h1.trans (hf3.mono fun _ _ h => .inl h), HR.out _ _ _ _ _ hR2 ((Fr.refl (At1 m) w2).drew.trans hf3)⟩
      clear hmu hm3 hf3 hq3 hC3 hC2 hw02 hf2 hR2 hnm c0 hlk
      go_wp2_with fail
      go_region_held3 (fun W => W.cell? ⟨p, 0, none⟩ = some (.map (some m)) ∧ W.cell? ⟨w.heap.size, 0, none⟩ = some (.string s) ∧ W.cell? ⟨w.heap.size, 1, none⟩ = some (.int .i64 h') ∧ W.cell? ⟨w.heap.size, 2, none⟩ = some (.int .i64 st') ∧ W.cell? ⟨w.heap.size, 3, none⟩ = some (.int .i64 l'))
        (first | exact ⟨p0, q0, q1, q2, q3⟩ | exact ⟨p0', r0, r1, r2, r3⟩) (fail)
      go_wp2
      go_ret
      exact HEND.out
    · have hb : (n != 0) = true := by rw [bne_iff_ne]; exact hn
      have HEND : Hid (ChRet p m S s.data.toList Fd R w (.returned (.int .i64 n)) w2) := .inr ⟨a, n, a', HG.out, rfl, hnm2, by rw [if_neg hn]; exact hC2, hw02.mono fun _ _ h => .inr h, hR2⟩
      clear hn c0 hlk
      go_wp2
      go_ret
      exact HEND.out
end Go.Proofs.YtlanhclgbkhdlaaGreat

namespace Go.Proofs.YtlanhclgbkhdlaaGreat
open Go.RowKit Go.My Go.Maps
set_option linter.unusedSimpArgs false
set_option linter.unusedVariables false
attribute [local go_sem ↓] Go.wp_at_zero Go.wp_at_succ

/-- what an account's numbers are -/
def OkA (a : Ac) : Prop := In64 a.hv ∧ (0 ≤ a.st ∧ a.st ≤ 9223372036854775807) ∧ (0 ≤ a.lim ∧ a.lim ≤ 9223372036854775807)
/-- free to give -/
def freeB (a : Ac) (x : Int) : Bool := decide (-a.lim ≤ a.hv - a.st - x)

theorem total3 (a b c : Int) : total [a, b, c] = a + b + c := by simp [total_cons, total_nil]; omega
set_option maxRecDepth 100000 in
set_option maxHeartbeats 1000000 in
theorem cangive_any (a : Ac) (x : Int) (w : World) (ha : OkA a) (hx : 0 < x ∧ x ≤ 9223372036854775807) :
    Calls Tryz.prog 131 #[.agg #[.string ⟨a.name.toArray⟩, .int .i64 a.hv, .int .i64 a.st, .int .i64 a.lim], .int .i64 x] w fun e w' => e = .returned (.bool (freeB a x)) ∧ Below w.heap.size w w' := by
  obtain ⟨h1, h2, h3⟩ := ha
  have hT : Hid (∀ (A : Option Addr) W, Rd W (fun _ => True) 1 A 3 (is_ [a.hv, -a.st, -x]) → Calls Tryz.prog 132 #[.slice A 3 3] W fun e w' => e = .returned (two64 (a.hv - a.st - x)) ∧ W = w') := fun A W hr => by
    have h := total_any (fun _ => True) A 3 [a.hv, -a.st, -x] W hr (fun y hy => by
      simp only [List.mem_cons, List.not_mem_nil, or_false] at hy
      unfold In64 at h1 ⊢
      rcases hy with rfl | rfl | rfl <;> omega) (by simp)
    rw [total3, show a.hv + -a.st + -x = a.hv - a.st - x by omega] at h
    exact h
  have hres : Hid ((In64 (a.hv - a.st - x) → two64 (a.hv - a.st - x) = .tuple #[.int .i64 (a.hv - a.st - x), .int .i64 0]) ∧ (¬ In64 (a.hv - a.st - x) → two64 (a.hv - a.st - x) = .tuple #[.int .i64 0, .int .i64 2] ∧ freeB a x = false)) :=
    ⟨fun h => two64_in h, fun h => ⟨two64_out h, by unfold freeB; rw [decide_eq_false_iff_not]; unfold In64 at h h1; omega⟩⟩
  have hfr : Hid (freeB a x = decide (-a.lim ≤ a.hv - a.st - x)) := rfl
  obtain ⟨nm, hv, st, lim⟩ := a
  simp only at *
  unfold In64 at h1
  obtain ⟨hx1, hx2⟩ := hx
  have hrd : Hid (∀ o : Obj, Calls Tryz.prog 132 #[.slice (some ⟨w.heap.size + 1, 0, none⟩) 3 3] ((w.alloc o).alloc (.cells #[.int .i64 hv, .int .i64 (-st), .int .i64 (-x)] 2)) fun e w' => e = .returned (two64 (hv - st - x)) ∧ ((w.alloc o).alloc (.cells #[.int .i64 hv, .int .i64 (-st), .int .i64 (-x)] 2)) = w') := fun o => by
    have hb := Blk.new (w.alloc o) 2 #[.int .i64 hv, .int .i64 (-st), .int .i64 (-x)]
    rw [World.size_alloc] at hb
    exact hT.out _ _ ⟨rfl, fun _ => ⟨_, rfl, trivial, World.news_of_block hb⟩⟩
  have hbel : Hid (∀ o o' : Obj, Below w.heap.size w ((w.alloc o).alloc o')) := fun o o' => ((Below.refl _ _).alloc (Nat.le_refl _) _).alloc (by simp) _
  go_enter Tryz.func131, Tryz.ntmps131
  go_wp2_with fail
  refine (hrd.out _).mono ?_
  rintro e w2 ⟨rfl, rfl⟩
  by_cases hin : In64 (hv - st - x)
  · rw [hres.out.1 hin]
    unfold In64 at hin
    go_wp2
    go_ret
    refine ⟨?_, hbel.out _ _⟩
    rw [hfr.out]
    rfl
  · obtain ⟨h4, h5⟩ := hres.out.2 hin
    have H5 := Lib.hid h5
    rw [h4]
    clear h4 h5 hin
    go_wp2
    go_ret
    refine ⟨?_, hbel.out _ _⟩
    rw [H5.out]
    rfl

/-- a sum in a block of its own -/
def XB (w : World) (b : Nat) (x : Int) : Prop := Blk w b 2 #[.int .i64 x]

/-- what is given -/
def giveE (a : Ac) (x : Int) : Int := if In64 (a.hv - x) then (if 0 < x ∧ freeB a x = false then 9 else 0) else 2
def giveA (a : Ac) (x : Int) : Ac := if giveE a x = 0 then { a with hv := a.hv - x } else a
def asideE (a : Ac) (x : Int) : Int := if In64 (a.st + x) then (if 0 < x ∧ freeB a x = false then 9 else if a.st + x < 0 then 13 else 0) else 2
def asideA (a : Ac) (x : Int) : Ac := if asideE a x = 0 then { a with st := a.st + x } else a

/-- what a deed leaves: its account, and nothing else that was there -/
def DeedRet (q : Nat) (n : Int) (a' : Ac) (w : World) (e : Ending) (w' : World) : Prop := e = .returned (.int .i64 n) ∧ AcB w' q a' ∧ Fr (At1 q) w w'

theorem acb_cells {w : World} {q : Nat} {nm : List UInt8} {hv st lim : Int} (h : AcB w q ⟨nm, hv, st, lim⟩) :
    w.cell? ⟨q, 0, none⟩ = some (.string ⟨nm.toArray⟩) ∧ w.cell? ⟨q, 1, none⟩ = some (.int .i64 hv) ∧ w.cell? ⟨q, 2, none⟩ = some (.int .i64 st) ∧ w.cell? ⟨q, 3, none⟩ = some (.int .i64 lim) :=
  ⟨h.cell 0, h.cell 1, h.cell 2, h.cell 3⟩

set_option maxRecDepth 100000 in
set_option maxHeartbeats 2000000 in
theorem give1_any (q xb : Nat) (a : Ac) (x : Int) (w : World) (h : AcB w q a) (hx : XB w xb x) (hne : q ≠ xb) (ha : OkA a) (hxi : In64 x) :
    Calls Tryz.prog 133 #[.pointer (some ⟨q, 0, none⟩), .pointer (some ⟨xb, 0, none⟩)] w (DeedRet q (giveE a x) (giveA a x) w) := by
  have HL : Hid (∀ W : World, Calls Tryz.prog 134 #[.int .i64 a.hv, .int .i64 x] W fun e w' => e = .returned (two64 (a.hv - x)) ∧ w' = W) := fun W => (less_any a.hv x W ha.1 hxi).mono fun _ _ h => ⟨h.1, h.2.symm⟩
  have HCG : Hid (∀ W : World, 0 < x → Calls Tryz.prog 131 #[.agg #[.string ⟨a.name.toArray⟩, .int .i64 a.hv, .int .i64 a.st, .int .i64 a.lim], .int .i64 x] W fun e w' => e = .returned (.bool (freeB a x)) ∧ Below W.heap.size W w') := fun W h0 =>
    cangive_any a x W ha ⟨h0, by unfold In64 at hxi; omega⟩
  have HA := Lib.hid h
  have HX := Lib.hid hx
  have hql := h.lt
  have hxl := hx.lt
  have HE : Hid (giveE a x = (if In64 (a.hv - x) then (if 0 < x ∧ freeB a x = false then 9 else 0) else 2) ∧ giveA a x = if giveE a x = 0 then { a with hv := a.hv - x } else a) := ⟨rfl, rfl⟩
  generalize giveE a x = ge at *
  generalize giveA a x = ga at *
  generalize freeB a x = fb at *
  obtain ⟨nm, hv, st, lim⟩ := a
  simp only at *
  obtain ⟨c0, c1, c2, c3⟩ := acb_cells h
  have d0 := hx.cell 0
  simp only [List.getElem?_toArray, List.getElem?_cons_zero] at d0
  have HF : Hid (∀ W, Fr No w W → AcB W q ⟨nm, hv, st, lim⟩ ∧ (W.cell? ⟨q, 0, none⟩ = some (.string ⟨nm.toArray⟩) ∧ W.cell? ⟨q, 1, none⟩ = some (.int .i64 hv) ∧ W.cell? ⟨q, 2, none⟩ = some (.int .i64 st) ∧ W.cell? ⟨q, 3, none⟩ = some (.int .i64 lim) ∧ W.cell? ⟨xb, 0, none⟩ = some (.int .i64 x))) := fun W hW => by
    have hA : AcB W q ⟨nm, hv, st, lim⟩ := Blk.fr h hW (fun h => h)
    have hB : XB W xb x := Blk.fr hx hW (fun h => h)
    obtain ⟨e0, e1, e2, e3⟩ := acb_cells hA
    exact ⟨hA, e0, e1, e2, e3, hB.cell 0⟩
  have HEND : Hid (∀ W, Fr No w W → DeedRet q 0 ⟨nm, hv - x, st, lim⟩ w (.returned (.int .i64 0)) (W.setCell ⟨q, 1, none⟩ (.int .i64 (hv - x)))) := fun W hW => by
    have hA : AcB W q ⟨nm, hv, st, lim⟩ := Blk.fr h hW (fun h => h)
    exact ⟨rfl, hA.set_ 1 (.int .i64 (hv - x)), Fr.setCell (S := At1 q) (p := ⟨q, 1, none⟩) (hW.mono fun _ _ h => False.elim h) (fun _ => rfl) _⟩
  have HSTAY : Hid (∀ n W, Fr No w W → DeedRet q n ⟨nm, hv, st, lim⟩ w (.returned (.int .i64 n)) W) := fun n W hW => ⟨rfl, Blk.fr h hW (fun h => h), hW.mono fun _ _ h => False.elim h⟩
  unfold In64 at hxi
  clear h hx ha HA HX
  by_cases hin : In64 (hv - x)
  · rw [two64_in hin] at HL
    rw [if_pos hin] at HE
    unfold In64 at hin
    go_enter Tryz.func133, Tryz.ntmps133
    go_wp2_with fail
    go_quiet ((go_at_call 134; exact Calls.quiet_of_same (HL.out _)))
    by_cases hpos : 0 < x
    · have HP := Lib.hid hpos
      go_upto_region 4 with (fail)
      have hw1 : Fr No w (w.drewN nq).drew := ((Fr.refl _ _).drewN nq).drew
      cases fb
      · have HEE : Hid (ge = 9 ∧ ga = ⟨nm, hv, st, lim⟩) := by
          have h1 := HE.out
          rw [if_pos ⟨hpos, rfl⟩] at h1
          exact ⟨h1.1, by rw [h1.2, h1.1, if_neg (by decide)]⟩
        go_region_held3 (fun W => W.cell? ⟨q, 0, none⟩ = some (.string ⟨nm.toArray⟩) ∧ W.cell? ⟨q, 1, none⟩ = some (.int .i64 hv) ∧ W.cell? ⟨q, 2, none⟩ = some (.int .i64 st) ∧ W.cell? ⟨q, 3, none⟩ = some (.int .i64 lim) ∧ W.cell? ⟨xb, 0, none⟩ = some (.int .i64 x))
          (first | exact (HF.out _ hw1).2 | exact (HF.out _ hf3).2)
          (first | (go_at_call 131; refine (HCG.out _ HP.out).mono ?_; rintro e w3 ⟨rfl, hb3⟩; have hf3 := hw1.trans (Fr.of_below hb3 _)))
        go_wp2
        go_ret
        obtain ⟨rfl, rfl⟩ := HEE.out
        exact HSTAY.out 9 _ hf3
      · have HEE : Hid (ge = 0 ∧ ga = ⟨nm, hv - x, st, lim⟩) := by
          have h1 := HE.out
          rw [if_neg (by simp)] at h1
          exact ⟨h1.1, by rw [h1.2, h1.1, if_pos rfl]⟩
        go_region_held3 (fun W => W.cell? ⟨q, 0, none⟩ = some (.string ⟨nm.toArray⟩) ∧ W.cell? ⟨q, 1, none⟩ = some (.int .i64 hv) ∧ W.cell? ⟨q, 2, none⟩ = some (.int .i64 st) ∧ W.cell? ⟨q, 3, none⟩ = some (.int .i64 lim) ∧ W.cell? ⟨xb, 0, none⟩ = some (.int .i64 x))
          (first | exact (HF.out _ hw1).2 | exact (HF.out _ hf3).2)
          (first | (go_at_call 131; refine (HCG.out _ HP.out).mono ?_; rintro e w3 ⟨rfl, hb3⟩; have hf3 := hw1.trans (Fr.of_below hb3 _)))
        have c1' := (HF.out _ hf3).2.2.1
        have f1' := (HF.out _ hf3).1.frozen 1
        go_wp2
        go_ret
        obtain ⟨rfl, rfl⟩ := HEE.out
        exact HEND.out _ hf3
    · have HEE : Hid (ge = 0 ∧ ga = ⟨nm, hv - x, st, lim⟩) := by
        have h1 := HE.out
        rw [if_neg (fun h => hpos h.1)] at h1
        exact ⟨h1.1, by rw [h1.2, h1.1, if_pos rfl]⟩
      have hd : decide (0 < x) = false := decide_eq_false hpos
      have f1 := (HF.out _ (Fr.refl _ _)).1.frozen 1
      go_upto_region 4 with (fail)
      go_quiet (fail)
      go_wp2
      go_ret
      obtain ⟨rfl, rfl⟩ := HEE.out
      first | exact HEND.out _ (((Fr.refl _ _).drewN _).drewN _) | exact HEND.out _ ((Fr.refl _ _).drewN _)
  · rw [two64_out hin] at HL
    rw [if_neg hin] at HE
    have HEE : Hid (ge = 2 ∧ ga = ⟨nm, hv, st, lim⟩) := ⟨HE.out.1, by rw [HE.out.2, HE.out.1, if_neg (by decide)]⟩
    clear hin
    go_enter Tryz.func133, Tryz.ntmps133
    go_wp2_with fail
    go_quiet ((go_at_call 134; exact Calls.quiet_of_same (HL.out _)))
    go_wp2
    go_ret
    obtain ⟨rfl, rfl⟩ := HEE.out
    exact HSTAY.out 2 _ ((Fr.refl _ _).drewN _)
end Go.Proofs.YtlanhclgbkhdlaaGreat
