/- Contracts of package disk: what is cut, appended, told, repaired. -/
import Derived.Test.YtjfbpnhkdlbinaaDisk
namespace Go.Proofs.Ytjfbpnhkdlbinaa
open Go.RowKit Go.My
set_option linter.unusedSimpArgs false
set_option linter.unusedVariables false

theorem retD_mono {w w1 : World} {p : Nat} {g g1 : Option Nat} {v v' : Value} {cap sure : Nat} {b : List UInt8} {br : Bool} {e : Ending} {w' : World}
    (hf : Fr (At2 p g) w w1) (hn : Newer w.heap.size g g1) (h : RetD w1 p g1 v' cap b sure br e w') : e = .returned v' ∧ ∃ g', Dk w' p g' cap b sure br ∧ Fr (At2 p g) w w' ∧ Newer w.heap.size g g' := by
  obtain ⟨he, g', hd, hf', hn'⟩ := h
  refine ⟨he, g', hd, hf.trans' hf' ?_, hn.trans hn' hf.size⟩
  intro i hi hlt
  rcases hi with hi | hi
  · exact .inl hi
  · rcases hn with rfl | ⟨k, rfl, hk⟩
    · exact .inr hi
    · injection hi with hi; omega

theorem cut_nil (n : Int) (w : World) : Calls Try.prog 52 #[.pointer none, .int .i64 n] w fun e w' => e = .returned (.int .i64 14) ∧ w = w' := by
  go_enter Try.func52, Try.ntmps52
  go_wp2_with (go_at_call 50; refine (broken_nil _).mono ?_; rintro e w' ⟨rfl, rfl⟩)
  go_ret
  exact ⟨rfl, rfl⟩
/-- what Cut tells -/
def cutE (br : Bool) (n : Int) (len : Nat) : Nat := if br then 14 else if n < 0 ∨ len < n then 13 else 0

set_option maxHeartbeats 400000 in
theorem cut_at (p : Nat) (g : Option Nat) (cap sure : Nat) (n : Int) (b : List UInt8) (br : Bool) (w : World) (h : Dk w p g cap b sure br) :
    Calls Try.prog 52 #[.pointer (some ⟨p, 0, none⟩), .int .i64 n] w
      (RetD w p g (.int .i64 (cutE br n b.length : Int)) cap (if cutE br n b.length = 0 then b.take n.toNat else b) (if cutE br n b.length = 0 then n.toNat else sure) br) := by
  have hd := h
  obtain ⟨v, hb, ho, hv, h1, h2, h3⟩ := h
  obtain ⟨A, c, rfl, hc1, hc2⟩ := ho.form
  have c1 := hb.cell 1
  simp at c1
  have hlen : b.length ≤ 65536 := by omega
  cases br with
  | true =>
    have hr : RetD w p g (.int .i64 14) cap b sure true (.returned (.int .i64 14)) w := ⟨rfl, g, hd, Fr.refl _ _, .inl rfl⟩
    have HR := Lib.hid hr
    clear hr hc1 hc2 ho hv h1 h2 h3
    go_enter Try.func52, Try.ntmps52
    go_wp2_with (go_at_call 50; refine (broken_at _ _ _ _ _ _ hb).mono ?_; rintro e w' ⟨rfl, rfl⟩)
    first | exact HR.out | (go_ret; exact HR.out)
  | false =>
    by_cases hn : n < 0
    · have hr : RetD w p g (.int .i64 (cutE false n b.length : Int)) cap (if cutE false n b.length = 0 then b.take n.toNat else b) (if cutE false n b.length = 0 then n.toNat else sure) false (.returned (.int .i64 13)) w := by
        have e : cutE false n b.length = 13 := by unfold cutE; rw [if_neg (by simp), if_pos (.inl hn)]
        rw [e]
        exact ⟨rfl, g, hd, Fr.refl _ _, .inl rfl⟩
      have HR := Lib.hid hr
      generalize (RetD w p g (.int .i64 (cutE false n b.length : Int)) cap (if cutE false n b.length = 0 then b.take n.toNat else b) (if cutE false n b.length = 0 then n.toNat else sure) false) = RR at HR ⊢
      clear hr hc1 hc2 ho hv h1 h2 h3
      go_enter Try.func52, Try.ntmps52
      go_wp2_with (go_at_call 50; refine (broken_at _ _ _ _ _ _ hb).mono ?_; rintro e w' ⟨rfl, rfl⟩)
      first | exact HR.out | (go_ret; exact HR.out)
    · by_cases hn2 : (b.length : Int) < n
      · have hr : RetD w p g (.int .i64 (cutE false n b.length : Int)) cap (if cutE false n b.length = 0 then b.take n.toNat else b) (if cutE false n b.length = 0 then n.toNat else sure) false (.returned (.int .i64 13)) w := by
          have e : cutE false n b.length = 13 := by unfold cutE; rw [if_neg (by simp), if_pos (.inr hn2)]
          rw [e]
          exact ⟨rfl, g, hd, Fr.refl _ _, .inl rfl⟩
        have HR := Lib.hid hr
        generalize (RetD w p g (.int .i64 (cutE false n b.length : Int)) cap (if cutE false n b.length = 0 then b.take n.toNat else b) (if cutE false n b.length = 0 then n.toNat else sure) false) = RR at HR ⊢
        clear hr hc1 hc2 ho hv h1 h2 h3
        go_enter Try.func52, Try.ntmps52
        go_wp2_with (go_at_call 50; refine (broken_at _ _ _ _ _ _ hb).mono ?_; rintro e w' ⟨rfl, rfl⟩)
        first | exact HR.out | (go_ret; exact HR.out)
      · obtain ⟨m, rfl⟩ := Int.eq_ofNat_of_zero_le (show 0 ≤ n by omega)
        have e : cutE false m b.length = 0 := by unfold cutE; rw [if_neg (by simp), if_neg (by omega)]
        have hk := keep_at p g cap sure m b false w hd (by omega)
        have HK := Lib.hid hk
        rw [e]
        simp only [if_true, Int.toNat_natCast]
        clear hk hc1 hc2 ho hv h1 h2 h3 e
        have hnn : ¬ (m : Int) < 0 := by omega
        go_enter Try.func52, Try.ntmps52
        go_wp2_with (first | (go_at_call 50; refine (broken_at _ _ _ _ _ _ hb).mono ?_; rintro e w' ⟨rfl, rfl⟩) | (go_at_call 65; refine HK.out.mono ?_; rintro e w' ⟨rfl, hr⟩))
        go_ret
        exact ⟨rfl, hr⟩

theorem append_nil (x : Value) (w : World) : Calls Try.prog 53 #[.pointer none, x] w fun e w' => e = .returned (.int .i64 14) ∧ w = w' := by
  go_enter Try.func53, Try.ntmps53
  go_wp2_with (go_at_call 50; refine (broken_nil _).mono ?_; rintro e w' ⟨rfl, rfl⟩)
  go_ret
  exact ⟨rfl, rfl⟩
/-- what Append tells -/
def appE (br : Bool) (cap len m : Nat) : Nat := if br then 14 else if cap - len < m then 5 else 0

set_option maxHeartbeats 400000 in
theorem append_at (p : Nat) (g : Option Nat) (cap sure : Nat) (b : List UInt8) (br : Bool) (F : Nat → Prop) (X : Option Addr) (k : Nat) (x : List UInt8) (w : World) (h : Dk w p g cap b sure br) (hx : Rd w F 1 X x.length (bs x)) (hxl : x.length ≤ 9223372036854775807) :
    Calls Try.prog 53 #[.pointer (some ⟨p, 0, none⟩), .slice X x.length k] w
      (RetD w p g (.int .i64 (appE br cap b.length x.length : Int)) cap (if appE br cap b.length x.length = 0 then b ++ x else b) sure br) := by
  have hd := h
  obtain ⟨v, hb, ho, hv, h1, h2, h3⟩ := h
  have hlen : b.length ≤ 65536 := by omega
  cases br with
  | true =>
    have hr : RetD w p g (.int .i64 14) cap b sure true (.returned (.int .i64 14)) w := ⟨rfl, g, hd, Fr.refl _ _, .inl rfl⟩
    have HR := Lib.hid hr
    clear hr ho hv h1 h2 h3 hx
    go_enter Try.func53, Try.ntmps53
    go_wp2_with (go_at_call 50; refine (broken_at _ _ _ _ _ _ hb).mono ?_; rintro e w' ⟨rfl, rfl⟩)
    first | exact HR.out | (go_ret; exact HR.out)
  | false =>
    have hroom := room_at p g cap sure b false w hd
    have HRM := Lib.hid hroom
    have hcl : (cap : Int) - (b.length : Int) = ((cap - b.length : Nat) : Int) := by omega
    by_cases hf : cap - b.length < x.length
    · have hr : ∀ j, RetD w p g (.int .i64 (appE false cap b.length x.length : Int)) cap (if appE false cap b.length x.length = 0 then b ++ x else b) sure false (.returned (.int .i64 5)) (w.drewN j) := by
        intro j
        have e : appE false cap b.length x.length = 5 := by unfold appE; rw [if_neg (by simp), if_pos hf]
        rw [e]
        exact ⟨rfl, g, hd, (Fr.refl _ _).drewN j, .inl rfl⟩
      have HR := Lib.hid hr
      generalize (RetD w p g (.int .i64 (appE false cap b.length x.length : Int)) cap (if appE false cap b.length x.length = 0 then b ++ x else b) sure false) = RR at HR ⊢
      clear hr ho hv h1 h2 h3 hx hroom
      go_enter Try.func53, Try.ntmps53
      go_wp2_with (first | (go_at_call 50; refine (broken_at _ _ _ _ _ _ hb).mono ?_; rintro e w' ⟨rfl, rfl⟩) | (go_at_call 51; refine HRM.out.mono ?_; rintro e w' ⟨rfl, j, rfl⟩))
      first | exact HR.out _ | (go_ret; exact HR.out _)
    · have e : appE false cap b.length x.length = 0 := by unfold appE; rw [if_neg (by simp), if_neg hf]
      rw [e]
      simp only [if_true]
      have hxs : Hid (Src Try.prog w 1 25 (.slice X x.length k) x.length (bs x)) := Src.of_rd hx (bs_one x) Try.underlying25
      have hc1 := hb.cell 1
      have hf1 := hb.frozen 1
      simp at hc1
      have HO := Lib.hid ho
      have HV := Lib.hid hv
      have HB := Lib.hid hb
      have hsum : b.length + x.length ≤ 65536 := by omega
      have hsum2 : b.length + x.length ≤ cap := by omega
      have hne := hd.ne
      have H3 := Lib.hid h3
      have H1 := Lib.hid h1
      have HNE := Lib.hid hne
      clear hroom e hx ho hv h1 h2 h3 hne
      obtain ⟨A, c, rfl, _, _⟩ := HO.out.form
      go_enter Try.func53, Try.ntmps53
      go_wp2_with (first | (go_at_call 50; refine (broken_at _ _ _ _ _ _ hb).mono ?_; rintro e w' ⟨rfl, rfl⟩) | (go_at_call 51; refine HRM.out.mono ?_; rintro e w' ⟨rfl, j, rfl⟩) | (at_builtin; refine wpList_app _ rfl (.tmp 16) (.tmp 17) 25 25 rfl elB (HO.out.drewN j) rfl (by exact hxs.out) rfl (by simp only [maxLen]; omega) (by omega) ?_; intro v1 w1 ho1 hf1' hn1; obtain ⟨A1, k1, rfl, _, _⟩ := ho1.form; (have hne1 : ¬ AtO (Value.slice A b.length c).ownBlock p := by have := HNE.out; have h2 := HV.out; rw [AtO, h2]; exact this); (have hb1 := HB.out.drewN j |>.fr hf1' hne1); (have hcc := hb1.cell 1); (have hff := hb1.frozen 1); simp at hcc))
      go_ret
      have hbs := ho1
      have hv := HV.out
      have hlt : ∀ k, g = some k → k < w.heap.size := fun k hk => HO.out.lt k (by rw [hv]; exact hk)
      have hnew : Newer w.heap.size g (Value.slice A1 (b.length + x.length) k1).ownBlock := by
        rcases hn1 with h | h
        · exact .inl (by rw [h, hv])
        · exact .inr ⟨_, h, Nat.le_refl _⟩
      have hg1p : (Value.slice A1 (b.length + x.length) k1).ownBlock ≠ some p := by
        rcases hn1 with h | h
        · rw [h, hv]; exact HNE.out
        · rw [h]
          intro h2
          injection h2 with h2
          have := HB.out.lt
          have h4 : (w.drewN j).heap.size = w.heap.size := rfl
          omega
      have hbl : (b ++ x).length = b.length + x.length := by simp
      have hdw : Fr (At2 p g) w w1 := (((Fr.refl (At2 p g) w).drewN j)).trans' hf1' (fun i hi _ => .inr (by rw [AtO, hv] at hi; exact hi))
      refine ⟨rfl, _, ⟨_, hb1.set_ 1 _, ?_, rfl, H1.out, by omega, by have := H3.out; omega⟩, hdw.trans (at2_set p g w1 1 _), hnew⟩
      rw [hbl, bs_append]
      exact ho1.setCell hg1p _

theorem clone_any (v : Value) (l : List UInt8) (w : World) (h : Own w 5 1 v l.length (bs l)) (hl : l.length ≤ 140737488355328) :
    Calls Try.prog 63 #[v] w (RetOwn w 5 1 none l.length (bs l)) := by
  obtain ⟨A, c, rfl, _, _⟩ := h.form
  have hnil := fun W => Lib.run_eql_slice_nil (P := Try.prog) W 25 5 A l.length c 0 0 Try.underlying25
  rcases A with _ | ad
  · have hl0 : l.length = 0 := by
      rcases h.2 with ⟨hv, hn⟩ | ⟨g, cap, cur, hv, _⟩
      · exact hn
      · injection hv with hA; cases hA
    have : l = [] := List.eq_nil_of_length_eq_zero hl0
    subst this
    simp only [Option.isNone_none, List.length_nil] at hnil
    clear h
    go_enter Try.func63, Try.ntmps63
    go_wp2
    go_ret
    exact ⟨_, rfl, Own.nil _ _ _, Fr.refl _ _, .inl rfl⟩
  · have hrd := h.rd
    have HS := Lib.hid hl
    simp only [Option.isNone_some] at hnil
    have hmt : Own (w.alloc (.cells #[] 5)) 5 1 (.slice (some ⟨w.heap.size, 0, none⟩) 0 0) 0 [] := ⟨by simp, .inr ⟨w.heap.size, 0, #[], rfl, heap_alloc_new w _, by omega, by simp only [maxLen]; omega, by simp, by simp⟩⟩
    have hsrc : Src Try.prog (w.alloc (.cells #[] 5)) 1 25 (.slice (some ad) l.length c) l.length (bs l) :=
      Src.of_rd ((rd_lt hrd (by omega)).below (B := w.heap.size) ((Below.refl _ _).alloc (Nat.le_refl _) _) (fun _ h => h)) (bs_one l) Try.underlying25
    have HM := Lib.hid hmt
    have HR := Lib.hid hsrc
    clear h hrd hmt hsrc hl
    go_enter Try.func63, Try.ntmps63
    go_wp2_with (at_builtin; refine wpList_app _ rfl (.tmp 5) (.tmp 6) 25 25 rfl elB HM.out rfl HR.out rfl (by simp only [maxLen]; have := HS.out; omega) (by have := HS.out; omega) ?_; intro v1 w1 ho1 hf1 hn1)
    go_ret
    refine ⟨v1, rfl, by simpa using ho1, ?_, ?_⟩
    · refine ((Fr.refl (AtO none) w).alloc (.cells #[] 5)).trans' hf1 (fun i hi hlt => ?_)
      simp only [AtO, Value.ownBlock, Option.some.injEq] at hi
      omega
    · rcases hn1 with h | h
      · exact .inr ⟨w.heap.size, h, Nat.le_refl _⟩
      · exact .inr ⟨_, h, by simp⟩

theorem bytes_nil (w : World) : Calls Try.prog 45 #[.pointer none] w fun e w' => e = .returned (.slice none 0 0) ∧ w = w' := by
  go_enter Try.func45, Try.ntmps45
  go_wp2
  go_ret
  exact ⟨rfl, rfl⟩
theorem bytes_at (p : Nat) (g : Option Nat) (cap sure : Nat) (b : List UInt8) (br : Bool) (w : World) (h : Dk w p g cap b sure br) :
    Calls Try.prog 45 #[.pointer (some ⟨p, 0, none⟩)] w (RetOwn w 5 1 none b.length (bs b)) := by
  obtain ⟨v, hb, ho, hv, h1, h2, h3⟩ := h
  have hc := clone_any v b w ho (by omega)
  have HC := Lib.hid hc
  obtain ⟨A, c, rfl, _, _⟩ := ho.form
  have c1 := hb.cell 1
  simp at c1
  clear hc hb ho hv h1 h2 h3
  go_enter Try.func45, Try.ntmps45
  go_wp2_with (go_at_call 63; refine HC.out.mono ?_; rintro e w1 ⟨v1, rfl, ho1, hf1, hn1⟩)
  go_ret
  exact ⟨v1, rfl, ho1, hf1, hn1⟩
end Go.Proofs.Ytjfbpnhkdlbinaa
