/- Change, where all sums are sums; the law's walk RatioLeft. -/
import Derived.Test.YtdmjnheohjegdaaDoorFlM5
import Derived.Test.YtdmjnheohjegdaaDoorFl7
namespace Go.Proofs.YtdmjnheohjegdaaDoor
open Go.RowKit Go.My Go.My.Fl
set_option linter.unusedSimpArgs false
set_option linter.unusedVariables false

/-! ### of no program -/
theorem half_div (k : Int) (hk : k.natAbs ≤ 1048576) : ∃ r, Ieee.double.div (FloatKind.f64.nearest k) 4611686018427387904 = some r ∧ Fl r (k * (pw 2199 : Nat)) := by
  have hU := U_pos
  have p53 := pw_53
  have hH : U = 2 * ((pw 2199 : Nat) : Int) := U_two
  have f1 : Fl (FloatKind.f64.nearest k) (k * U) := fl_int (by omega)
  have f2 : Fl 4611686018427387904 (2 * U) := fl_const 2 _ (by decide) (by decide +kernel)
  have hv : (0 : Int) < 2 * U := by omega
  by_cases h0 : k = 0
  · subst h0
    rw [Int.zero_mul] at f1
    obtain ⟨r, w, e, h1, h2, h3⟩ := Fl.divI f1 f2 hv (by omega)
    have h2 := h2 0 (by omega)
    have h3 := h3 0 (by omega)
    obtain rfl : w = 0 := by omega
    exact ⟨r, e, by rw [Int.zero_mul]; exact rn_zero h1⟩
  · obtain ⟨r, w, N, e, h1, h2, h3, h4⟩ := Fl.divF f1 f2 hv (by
      intro hh; exact h0 ((Int.mul_eq_zero.1 hh).resolve_right (by omega)))
    obtain ⟨r', w', e', h1', h2', h3'⟩ := Fl.divI f1 f2 hv (by
      rw [Int.natAbs_mul, Int.natCast_mul, show (U.natAbs : Int) = U by omega]
      have : (k.natAbs : Int) * U ≤ 1048576 * U := Int.mul_le_mul_of_nonneg_right (by omega) (by omega)
      omega)
    have hP := pw_pos N
    have hc := div_close hP hv h2 h3
    have nb : k * U ≤ 1048576 * U ∧ -(1048576 * U) ≤ k * U := by
      have a1 : k * U ≤ 1048576 * U := Int.mul_le_mul_of_nonneg_right (by omega) (by omega)
      have a2 : -1048576 * U ≤ k * U := Int.mul_le_mul_of_nonneg_right (by omega) (by omega)
      rw [Int.neg_mul] at a2
      exact ⟨a1, a2⟩
    have hN : N ≤ 2199 := by
      apply Nat.le_of_not_lt; intro hh
      have hp := pw_le (show 2200 ≤ N by omega)
      have hUU : U = ((pw 2200 : Nat) : Int) := rfl
      rw [p53] at h4
      have c1 : w * 2 ≤ k * U + 2 * (pw N : Nat) := by
        refine Int.le_of_mul_le_mul_right (a := U) ?_ hU
        have e1 : w * 2 * U = w * (2 * U) := Int.mul_assoc _ _ _
        have e2 : (k * U + 2 * (pw N : Nat)) * U = k * U * U + 2 * U * (pw N : Nat) := by rw [Int.add_mul, Int.mul_assoc 2, Int.mul_assoc 2, Int.mul_comm U]
        omega
      have c2 : k * U ≤ w * 2 + 2 * (pw N : Nat) := by
        refine Int.le_of_mul_le_mul_right (a := U) ?_ hU
        have e1 : (w * 2 + 2 * (pw N : Nat)) * U = w * (2 * U) + 2 * U * (pw N : Nat) := by rw [Int.add_mul, Int.mul_assoc, Int.mul_assoc 2, Int.mul_assoc 2, Int.mul_comm U]
        omega
      omega
    have e1 : ((pw 2199 : Nat) : Int) = (pw (2199 - N) : Nat) * (pw N : Nat) := by rw [← Int.natCast_mul, ← pw_add, show 2199 - N + N = 2199 by omega]
    have e2 : k * (pw (2199 - N) : Nat) * (2 * U) * (pw N : Nat) = k * U * U := by
      have : k * (pw (2199 - N) : Nat) * (2 * U) * (pw N : Nat) = k * U * (2 * ((pw (2199 - N) : Nat) * (pw N : Nat))) := by simp only [Int.mul_comm, Int.mul_left_comm, Int.mul_assoc]
      rw [this, ← e1, ← hH]
    have g1 := h2 _ (Int.le_of_eq e2)
    have g2 := h3 _ (Int.le_of_eq e2.symm)
    rw [Int.mul_assoc, ← e1] at g1 g2
    have : w = k * (pw 2199 : Nat) := by omega
    subst this
    have hr := rp_pw (k := k) (j := 2199) (by omega) (by omega) (by omega)
    exact ⟨r, e, h1.exact hr.1 hr.2⟩

theorem near_factN (n : Int) (W : World) : (convert 3 22 (.int .i64 n)).run Tryd.prog W = .ok (.float .f64 (FloatKind.f64.nearest n)) W :=
  run_convert_int_float (P := Tryd.prog) W 3 22 .i64 .f64 n (by rw [Tryd.underlying3]; rfl) Tryd.underlying22
theorem wrap_small {x : Int} (h : In64 x) : wrap64 x = x := by unfold In64 at h; rw [wrap64_eq]; omega
theorem rnd_half (n : Int) : -1 ≤ 2 * rndI (n * (pw 2199 : Nat)) - n ∧ 2 * rndI (n * (pw 2199 : Nat)) - n ≤ 1 := by
  have h := rndI_near (n * (pw 2199 : Nat))
  have hH : U = 2 * ((pw 2199 : Nat) : Int) := U_two
  have hp : (0 : Int) < (pw 2199 : Nat) := by have := pw_pos 2199; omega
  generalize rndI (n * (pw 2199 : Nat)) = r at *
  generalize ((pw 2199 : Nat) : Int) = P at *
  rw [hH] at h
  have e1 : r * (2 * P) = 2 * (r * P) := Int.mul_left_comm r 2 P
  have e2 : (2 * r - n) * P = 2 * (r * P) - n * P := by rw [Int.sub_mul, Int.mul_assoc]
  rw [e1] at h
  have a1 : (2 * r - n) * P ≤ 1 * P := by omega
  have a2 : -1 * P ≤ (2 * r - n) * P := by omega
  exact ⟨Int.le_of_mul_le_mul_right a2 hp, Int.le_of_mul_le_mul_right a1 hp⟩
/-- what an element is changed to -/
def chg (k a : Int) : Int := rndI (a * k * (pw 2199 : Nat))
theorem total_chg (k : Int) (l : List Int) : -(l.length : Int) ≤ 2 * total (l.map (chg k)) - total l * k ∧ 2 * total (l.map (chg k)) - total l * k ≤ l.length := by
  induction l with
  | nil => simp [total_nil]
  | cons a l ih =>
    have h := rnd_half (a * k)
    rw [List.map_cons, total_cons, total_cons, Int.add_mul, List.length_cons]
    show _ ≤ 2 * (rndI (a * k * (pw 2199 : Nat)) + _) - _ ∧ _
    unfold chg at ih ⊢
    omega
theorem small_mul {a k : Int} {A K : Nat} (ha : a.natAbs ≤ A) (hk : k.natAbs ≤ K) : (a * k).natAbs ≤ A * K := by
  rw [Int.natAbs_mul]; exact Nat.mul_le_mul ha hk
theorem total_small (l : List Int) (h : ∀ a ∈ l, a.natAbs ≤ 1099511627776) : (total l).natAbs ≤ 1099511627776 * l.length := by
  induction l with
  | nil => simp [total_nil]
  | cons a l ih =>
    have h1 := h a List.mem_cons_self
    have h2 := ih fun y hy => h y (List.mem_cons_of_mem _ hy)
    rw [total_cons, List.length_cons]
    omega

/-! ### Change -/
/-- all that Change asks -/
structure ChgOk (l : List Int) (x : Nat) (k : Int) : Prop where
  each : ∀ a ∈ l, timesO a x = some (chg k a)
  in1 : ∀ a ∈ l, In64 a
  in2 : ∀ a ∈ l.map (chg k), In64 a
  tot : In64 (total l)
  tot2 : In64 (total (l.map (chg k)))
  want : timesO (total l) x = some (chg k (total l))
  off : In64 (total (l.map (chg k)) - chg k (total l))
  len : l.length ≤ 100
theorem chg_ok (l : List Int) (x : Nat) (k : Int) (hx : Fl x (k * (pw 2199 : Nat))) (hk : k.natAbs ≤ 10) (hl : ∀ a ∈ l, a.natAbs ≤ 1099511627776) (hlen : l.length ≤ 100) : ChgOk l x k := by
  have p53 := pw_53
  have h1 : ∀ a : Int, a.natAbs ≤ 109951162777600 → timesO a x = some (chg k a) ∧ (chg k a).natAbs ≤ 1099511627776001 := by
    intro a ha
    have hm := small_mul ha hk
    have hr := rnd_half (a * k)
    refine ⟨times_pw a k 2199 x hx (by omega) (by omega) (by omega) (by omega), ?_⟩
    unfold chg; omega
  have ht := total_small l hl
  have hc := total_chg k l
  have hw := h1 (total l) (by omega)
  have htk := small_mul (a := total l) (k := k) (A := 109951162777600) (by omega) hk
  exact {
    each := fun a ha => (h1 a (by have := hl a ha; omega)).1
    in1 := fun a ha => by have := hl a ha; unfold In64; omega
    in2 := fun a ha => by
      obtain ⟨b, hb, rfl⟩ := List.mem_map.1 ha
      have := (h1 b (by have := hl b hb; omega)).2
      unfold In64; omega
    tot := by unfold In64; omega
    tot2 := by unfold In64; omega
    want := hw.1
    off := by have := hw.2; unfold In64; omega
    len := hlen }

theorem chg_want {l : List Int} {x : Nat} {k : Int} (h : ChgOk l x k) : In64 (chg k (total l)) := by
  have := h.want
  unfold timesO at this
  cases hm : Ieee.double.mul (FloatKind.f64.nearest (total l)) x with
  | none => rw [hm] at this; cases this
  | some r =>
    rw [hm] at this
    exact rndO_in this

def ChRel (w : World) (l : List Int) (k : Int) (lv iv : Value) (wr : World) : Prop :=
  ∃ n : Nat, n ≤ l.length ∧ iv = .int .i64 n ∧ Own wr 2 1 lv n (is_ ((l.take n).map (chg k))) ∧ Fr No w wr ∧ Newer w.heap.size none lv.ownBlock

set_option maxHeartbeats 2000000 in
theorem change_any (F : Nat → Prop) (A : Option Addr) (c : Nat) (l : List Int) (x : Nat) (k : Int) (w : World) (hr : Rd w F 1 A l.length (is_ l)) (hok : ChgOk l x k) :
    Calls Tryd.prog 18 #[.slice A l.length c, .float .f64 x] w fun e w' => ∃ B d, e = .returned (.tuple #[.slice B l.length d, .int .i64 (if l = [] then 0 else total (l.map (chg k)) - chg k (total l)), .int .i64 0]) ∧ Fr No w w' := by
  have hlen := hok.len
  by_cases hl : l = []
  · subst hl
    have h0 : ((([] : List Int).length : Int) == 0) = true := rfl
    clear hr hok
    rw [if_pos rfl]
    go_enter Tryd.func18, Tryd.ntmps18
    go_wp2
    refine bodyPost_ret (v := .tuple #[.slice none 0 0, .int .i64 0, .int .i64 0]) (by simp [results, Tryd.results18, go_sem]) rfl ?_
    exact ⟨none, 0, rfl, Fr.refl _ _⟩
  · rw [if_neg hl]
    have hpos : 0 < l.length := List.length_pos_iff.2 hl
    have h0 : ((l.length : Int) == 0) = false := by rw [beq_eq_false_iff_ne]; omega
    have HR : Hid (Rd w (Lt w.heap.size) 1 A l.length (is_ l)) := rd_lt hr (by omega)
    have HOK := Lib.hid hok
    have HC : Hid (total (l.map (chg k)) - chg k (total l) = total (l.map (chg k)) - chg k (total l)) := Lib.hid rfl
    generalize hoff : total (l.map (chg k)) - chg k (total l) = off
    have HOFF := Lib.hid hoff
    clear hr hok hl hoff HC
    go_enter Tryd.func18, Tryd.ntmps18
    go_wp2
    go_loopw [7, 22] (fun lv iv wr => ChRel w l k lv iv wr) (fun _ iv _ => l.length - (intOf iv).toNat)
    case atStart => exact ⟨0, Nat.zero_le _, rfl, Own.nil _ _ _, Fr.refl _ _, .inl rfl⟩
    case round =>
      obtain ⟨n, hn, rfl, hown, hfr, hnew⟩ := hrel
      by_cases hlt : n < l.length
      · obtain ⟨ad, u, rfl, _, hx, hc⟩ := (HR.out.below hfr.belowNo fun _ h => h).at_ hlt
        rw [is_get l n hlt] at hx
        injection hx with hx
        subst hx
        have HT : Hid (∀ W, Calls Tryd.prog 10 #[.int .i64 l[n], .float .f64 x] W fun e w' => e = .returned (.tuple #[.int .i64 (chg k l[n]), .int .i64 0]) ∧ Fr No W w') := Lib.hid (fun W => by
          have := times_any l[n] x W
          rw [HOK.out.each _ (List.getElem_mem hlt)] at this
          exact this)
        have HE : Hid (is_ ((l.take (n + 1)).map (chg k)) = is_ ((l.take n).map (chg k)) ++ [.int .i64 (chg k l[n])]) := Lib.hid (by
          rw [List.take_succ_eq_append_getElem hlt, List.map_append, is_append]; rfl)
        have hX : Hid (n + 1 ≤ maxLen ∧ (n + 1) * 8 ≤ 140737488355328) := by
          refine ⟨?_, ?_⟩ <;> (try simp only [maxLen]) <;> omega
        generalize chg k l[n] = y at *
        generalize l[n] = z at *
        have HOW := Lib.hid hown
        clear hown
        go_wp2_with fail
        refine (HT.out _).mono ?_
        rintro e w2 ⟨rfl, hw2⟩
        have HO2 := Lib.hid (HOW.out.fr hw2 fun _ _ h => h)
        go_wp2_with (at_builtin; refine wpList_app _ rfl (.tmp 35) (.tmp 37) 33 33 rfl elI (HO2.out.alloc _) rfl (Src.of_new w2.heap.size (heap_alloc_new w2 _) Tryd.underlying33 rfl (by simp [Value.oneCell'])) rfl hX.out.1 hX.out.2 ?_; intro v1 w3 hown3 hfr3 hnew3)
        go_roundw
        case rel =>
          refine ⟨n + 1, by omega, by go_num, ?_, ?_, ?_⟩
          · rw [HE.out]; exact hown3
          · exact fr_no ((hfr.trans hw2).alloc _) hnew hfr3
          · exact hnew.trans (Newer.of hnew3) (by have := (hfr.trans hw2).size; simp; omega)
        case measure => simp [intOf]; omega
      · obtain rfl : n = l.length := by omega
        rw [List.take_length] at hown
        obtain ⟨B, d, rfl, hd1, hd2⟩ := hown.form
        have HT1 : Hid (∀ W, Fr No w W → Calls Tryd.prog 30 #[.slice A l.length c] W fun e w' => e = .returned (.tuple #[.int .i64 (total l), .int .i64 0]) ∧ W = w') := Lib.hid (fun W hW => by
          have := total_any _ A c l W (HR.out.below hW.belowNo fun _ h => h) HOK.out.in1 (by omega)
          rw [two64_in HOK.out.tot] at this
          exact this)
        have HT2 : Hid (Calls Tryd.prog 30 #[.slice B l.length d] wr fun e w' => e = .returned (.tuple #[.int .i64 (total (l.map (chg k))), .int .i64 0]) ∧ wr = w') := Lib.hid (by
          have := total_any _ B d (l.map (chg k)) wr (by rw [List.length_map]; exact hown.rd) HOK.out.in2 (by rw [List.length_map]; omega)
          rw [two64_in HOK.out.tot2, List.length_map] at this
          exact this)
        have HT3 : Hid (∀ W, Calls Tryd.prog 10 #[.int .i64 (total l), .float .f64 x] W fun e w' => e = .returned (.tuple #[.int .i64 (chg k (total l)), .int .i64 0]) ∧ Fr No W w') := Lib.hid (fun W => by
          have := times_any (total l) x W
          rw [HOK.out.want] at this
          exact this)
        have HT4 : Hid (∀ W, Calls Tryd.prog 31 #[.int .i64 (total (l.map (chg k))), .int .i64 (chg k (total l))] W fun e w' => e = .returned (.tuple #[.int .i64 off, .int .i64 0]) ∧ W = w') := Lib.hid (fun W => by
          have h4 := (chg_want HOK.out)
          have := less_any (total (l.map (chg k))) (chg k (total l)) W HOK.out.tot2 h4
          rw [two64_in HOK.out.off, HOFF.out] at this
          exact this)
        have HFR := Lib.hid hfr
        have HFR1 := Lib.hid (HT1.out _ hfr)
        clear hown hfr HT1 HOK HOFF
        generalize total (l.map (chg k)) = t2 at *
        generalize chg k (total l) = t3 at *
        generalize total l = t1 at *
        go_wp2_with fail
        refine HFR1.out.mono ?_
        rintro e w2 ⟨rfl, rfl⟩
        go_wp2_with fail
        refine HT2.out.mono ?_
        rintro e w2 ⟨rfl, rfl⟩
        go_wp2_with fail
        refine (HT3.out _).mono ?_
        rintro e w2 ⟨rfl, hw2⟩
        go_wp2_with fail
        refine (HT4.out _).mono ?_
        rintro e w3 ⟨rfl, rfl⟩
        go_wp2
        refine bodyPost_ret (v := .tuple #[.slice B l.length d, .int .i64 off, .int .i64 0]) (by simp [results, Tryd.results18, go_sem]) rfl ?_
        exact ⟨B, d, rfl, HFR.out.trans hw2⟩

def LeftRel (w : World) (l : List Int) (lv iv : Value) (wr : World) : Prop :=
  ∃ n : Nat, n ≤ l.length ∧ n ≤ 100 ∧ iv = .int .i64 n ∧ Own wr 2 1 lv n (is_ ((l.take n).map fun a => a.tmod 1099511627776)) ∧ Fr No w wr ∧ Newer w.heap.size none lv.ownBlock

set_option maxHeartbeats 600000 in
theorem ratioLeft_walk (A : Option Addr) (c : Nat) (l : List Int) (h : Int) (w : World) (hr : Rd w (Lt w.heap.size) 1 A l.length (is_ l)) (hlc : l.length ≤ c) (hcm : c ≤ maxLen) (hI : ∀ x ∈ l, In64 x) (hh : -9223372036854775808 ≤ h ∧ h ≤ 9223372036854775807) (ht : Tab w) :
    Calls Tryd.prog 6 #[.slice A l.length c, .int .i64 h] w (RetTrue w) := by
  have HT := Lib.hid ht
  have HL := Lib.hid fun W h => lives19 W h
  have HR := Lib.hid hr
  obtain ⟨m, hm, hml⟩ := umod h 21 (by omega) (by omega)
  have e21 : (IntKind.u64.wrap h).tmod ((21 : Nat) : Int) = (IntKind.u64.wrap h).tmod 21 := rfl
  rw [e21] at hm
  have HM := Lib.hid hm
  clear hr ht hI hcm hlc hm e21
  go_enter Tryd.func6, Tryd.ntmps6
  go_wp2_with fail
  refine (HL.out _ HT.out).mono ?_
  rintro e w1 ⟨rfl, hw1⟩
  have HW1 := Lib.hid hw1
  clear hw1 HL HT
  go_wp2
  go_loopw [5, 6] (fun lv iv wr => LeftRel w1 l lv iv wr) (fun _ iv _ => l.length - (intOf iv).toNat)
  case atStart => exact ⟨0, Nat.zero_le _, Nat.zero_le _, rfl, Own.nil _ _ _, Fr.refl _ _, .inl rfl⟩
  case round =>
    obtain ⟨n, hn, hn2, rfl, hown, hfr, hnew⟩ := hrel
    by_cases hlt : n < l.length ∧ n < 100
    · obtain ⟨hlt, h100⟩ := hlt
      obtain ⟨ad, u, rfl, _, hx, hc⟩ := (HR.out.below (HW1.out.trans hfr).belowNo fun _ h => h).at_ hlt
      rw [is_get l n hlt] at hx
      injection hx with hx
      subst hx
      have HE : Hid (is_ ((l.take (n + 1)).map fun a => a.tmod 1099511627776) = is_ ((l.take n).map fun a => a.tmod 1099511627776) ++ [.int .i64 (l[n].tmod 1099511627776)]) := Lib.hid (by
        rw [List.take_succ_eq_append_getElem hlt, List.map_append, is_append]; rfl)
      have hX : Hid (n + 1 ≤ maxLen ∧ (n + 1) * 8 ≤ 140737488355328) := by
        refine ⟨?_, ?_⟩ <;> (try simp only [maxLen]) <;> omega
      have HOW := Lib.hid hown
      have q1 : (n : Int) < (l.length : Int) := by omega
      have q2 : (n : Int) < 100 := by omega
      clear hown
      generalize l[n] = z at *
      go_wp2_with (at_builtin; refine wpList_app _ rfl (.tmp 23) (.tmp 29) 33 33 rfl elI (HOW.out.alloc _) rfl (Src.of_new wr.heap.size (heap_alloc_new wr _) Tryd.underlying33 rfl (by simp [Value.oneCell'])) rfl hX.out.1 hX.out.2 ?_; intro v1 w3 hown3 hfr3 hnew3)
      go_roundw
      case rel =>
        refine ⟨n + 1, by omega, by omega, by go_num, ?_, ?_, ?_⟩
        · rw [HE.out]; exact hown3
        · exact fr_no (hfr.alloc _) hnew hfr3
        · exact hnew.trans (Newer.of hnew3) (by have := hfr.size; simp; omega)
      case measure => simp [intOf]; omega
    · obtain ⟨B, d, rfl, hd1, hd2⟩ := hown.form
      obtain ⟨L, hL⟩ : ∃ L, L = (l.take n).map fun a => a.tmod 1099511627776 := ⟨_, rfl⟩
      have hLn : L.length = n := by rw [hL, List.length_map, List.length_take]; omega
      have hLs : ∀ a ∈ L, a.natAbs ≤ 1099511627776 := by
        intro a ha
        rw [hL] at ha
        obtain ⟨b, _, rfl⟩ := List.mem_map.1 ha
        rw [Int.natAbs_tmod]
        have := Nat.mod_lt b.natAbs (show 0 < (1099511627776 : Int).natAbs by decide)
        have e : (1099511627776 : Int).natAbs = 1099511627776 := rfl
        omega
      rw [← hL] at hown
      obtain ⟨k, hk⟩ : ∃ k : Int, k = (m : Int) - 10 := ⟨_, rfl⟩
      obtain ⟨x, hd, hx⟩ := half_div k (by omega)
      have hok := chg_ok L x k hx (by omega) hLs (by omega)
      have HCH := Lib.hid (change_any _ B d L x k wr (by rw [hLn]; exact hown.rd) hok)
      rw [hLn] at HCH
      have hv : -((n : Int) + 1) ≤ 2 * (if L = [] then 0 else total (L.map (chg k)) - chg k (total L)) ∧ 2 * (if L = [] then 0 else total (L.map (chg k)) - chg k (total L)) ≤ (n : Int) + 1 := by
        have h1 := total_chg k L
        have h2 := rnd_half (total L * k)
        rw [hLn] at h1
        unfold chg at h1 ⊢
        split <;> omega
      generalize (if L = [] then 0 else total (L.map (chg k)) - chg k (total L)) = v at *
      obtain ⟨t, ht⟩ : ∃ t : Nat, ((n : Int) + 1).tdiv 2 = t ∧ 2 * t ≥ n ∧ t ≤ 100 := ⟨(n + 1) / 2, by
        rw [show ((n : Int) + 1) = ((n + 1 : Nat) : Int) by omega, show (2 : Int) = ((2 : Nat) : Int) from rfl]
        exact (Int.ofNat_tdiv _ _).symm, by omega, by omega⟩
      have Q7 := Lib.hid ht.1
      obtain ⟨_, q8, q9⟩ := ht
      have hcd : Hid ((n : Int) < (l.length : Int) ∧ ¬ (n : Int) < 100 ∨ ¬ (n : Int) < (l.length : Int)) := by
        show _ ∨ _
        by_cases h1 : n < l.length
        · exact .inl ⟨by omega, by omega⟩
        · exact .inr (by omega)
      have g0 : (v ≤ (t : Int) + 1) := by omega
      have g1 : (-v ≤ (t : Int) + 1) := by omega
      have i1 : In64 ((m : Int) - 10) := by unfold In64; omega
      have i2 : In64 (-v) := by unfold In64; omega
      have i3 : In64 ((n : Int) + 1) := by unfold In64; omega
      have i4 : In64 ((t : Int) + 1) := by unfold In64; omega
      have e0 : 0 - v = -v := by omega
      have HFR := Lib.hid ((HW1.out.trans hfr))
      have q2 := fun W => near_factN k W
      have q3 := fun W => op_fact .quo _ _ x hd W
      have q1 : wrap64 ((m : Int) - 10) = k := by rw [wrap_small i1]; exact hk.symm
      have q0 : floatOfInt .f64 k = FloatKind.f64.nearest k := rfl
      have q5 := wrap_small i2
      have q6 := wrap_small i3
      have i5 : In64 (t : Int) := by unfold In64; omega
      have HTT : Hid (wrap64 (wrap64 (t : Int) + 1) = (t : Int) + 1) := Lib.hid (by rw [wrap_small i5, wrap_small i4])
      clear i1 i2 i3 i4 i5 e0
      clear hown hfr hL hLs hok hd hx hlt hk hLn hv q8 q9 hml
      have hm := HM.out
      have q7 := Q7.out
      clear HM Q7
      generalize FloatKind.f64.nearest k = fk at *
      rcases hcd.out with ⟨c1, c2⟩ | c1 <;> by_cases c3 : v < 0
      all_goals
        go_wp2_with fail
        refine HCH.out.mono ?_
        rintro e w5 ⟨B2, d2, rfl, hw5⟩
        clear q0 q1 q2 q3 hm HCH HR
        go_wp2
        go_ret
        refine ⟨?_, (HFR.out.trans hw5).belowNo⟩
        first
          | (show Ending.returned (.bool (decide (-v ≤ wrap64 (wrap64 (t : Int) + 1)))) = _; rw [HTT.out, decide_eq_true g1])
          | (show Ending.returned (.bool (decide (v ≤ wrap64 (wrap64 (t : Int) + 1)))) = _; rw [HTT.out, decide_eq_true g0])
end Go.Proofs.YtdmjnheohjegdaaDoor
