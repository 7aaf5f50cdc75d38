/- A step of the document's own chart. -/
import Derived.Test.YtneelnfcjmbboaaChartJ3
import Derived.Test.YtneelnfcjmbboaaChartJ4
import Derived.Test.YtneelnfcjmbboaaChartJ5
namespace Go.Proofs.Ytneelnfcjmbboaa
open Go.RowKit Go.My Go.Maps
set_option linter.unusedSimpArgs false
set_option linter.unusedVariables false
attribute [local go_sem ↓] Go.wp_at_zero Go.wp_at_succ

set_option maxRecDepth 100000 in
set_option maxHeartbeats 2000000 in
/-- a step of the document's own chart, whatever it is done to -/
theorem doesref_gen (c : Value) (o : OpC) (w : World) (n : Int) (Q : World → Prop) (ho : o.ok) (hQ : ∀ W W', Q W → Fr No W W' → Q W')
    (h0 : kindC o.kind = 0 → ∀ W, Fr No w W → Calls Try.prog 25 #[c, .string o.name, .int .i64 o.x] W fun e w' => e = .returned (.int .i64 n) ∧ Q w')
    (h1 : kindC o.kind = 1 → ∀ W, Fr No w W → Calls Try.prog 26 #[c, .string o.name, .int .i64 o.x] W fun e w' => e = .returned (.int .i64 n) ∧ Q w')
    (h2 : kindC o.kind = 2 → ∀ W, Fr No w W → Calls Try.prog 27 #[c, .string o.name, .int .i64 o.x] W fun e w' => e = .returned (.int .i64 n) ∧ Q w')
    (h3 : kindC o.kind = 3 → ∀ W, Fr No w W → Calls Try.prog 28 #[c, .string o.name] W fun e w' => ∃ a : Ac, e = .returned (.tuple #[a.val, .int .i64 n]) ∧ Q w') :
    Calls Try.prog 12 #[c, o.val] w fun e w' => e = .returned (.int .i64 n) ∧ Q w' := by
  obtain ⟨k, s, x⟩ := o
  have HK := Lib.hid fun W => kind_any k s x W ho.1
  have HQ := Lib.hid hQ
  have H0 := Lib.hid h0
  have H1 := Lib.hid h1
  have H2 := Lib.hid h2
  have H3 := Lib.hid h3
  have hbd := kindC_bd k
  unfold OpC.val
  simp only at *
  clear h0 h1 h2 h3 hQ ho
  have hbx := Blk.new w 34 #[.int .i64 k, .string s, .int .i64 x]
  have hfx : Fr No w (w.alloc (.cells #[.int .i64 k, .string s, .int .i64 x] 34)) := (Fr.refl _ _).alloc _
  go_enter Try.func12, Try.ntmps12
  go_wp2_with fail
  refine (HK.out _).mono ?_
  rintro e w2 ⟨rfl, hf2⟩
  have hbx2 := hbx.fr hf2 (fun h => h)
  have HF := Lib.hid (hfx.trans hf2)
  have c0 := hbx2.cell 0
  have c1 := hbx2.cell 1
  have c2 := hbx2.cell 2
  simp only [List.getElem?_toArray, List.getElem?_cons_zero, List.getElem?_cons_succ] at c0 c1 c2
  clear hbx hfx hf2 hbx2
  rcases hbd with hk | hk | hk | hk
  · have HH := Lib.hid (H0.out hk _ HF.out)
    rw [hk]
    clear hk H0 H1 H2 H3 HF
    go_wp2_with (go_at_call 25; refine HH.out.mono ?_; rintro e w3 ⟨rfl, hq⟩)
    go_ret
    exact ⟨rfl, hq⟩
  · have HH := Lib.hid (H1.out hk _ HF.out)
    rw [hk]
    clear hk H0 H1 H2 H3 HF
    go_wp2_with (go_at_call 26; refine HH.out.mono ?_; rintro e w3 ⟨rfl, hq⟩)
    go_ret
    exact ⟨rfl, hq⟩
  · have HH := Lib.hid (H2.out hk _ HF.out)
    rw [hk]
    clear hk H0 H1 H2 H3 HF
    go_wp2_with (go_at_call 27; refine HH.out.mono ?_; rintro e w3 ⟨rfl, hq⟩)
    go_ret
    exact ⟨rfl, hq⟩
  · have HH : Hid (Calls Try.prog 28 #[c, .string s] w2 fun e w' => ∃ (nm : List UInt8) (hv st lim : Int), e = .returned (.tuple #[.agg #[.string ⟨nm.toArray⟩, .int .i64 hv, .int .i64 st, .int .i64 lim], .int .i64 n]) ∧ Q w') :=
      (H3.out hk _ HF.out).mono fun e w' h => by obtain ⟨a, h1, h2⟩ := h; exact ⟨a.name, a.hv, a.st, a.lim, h1, h2⟩
    rw [hk]
    clear hk H0 H1 H2 H3 HF
    go_wp2_with (go_at_call 28; refine HH.out.mono ?_; rintro e w3 ⟨nm, hv, st, lim, rfl, hq⟩)
    go_ret
    exact ⟨rfl, HQ.out _ _ hq ((Fr.refl _ _).alloc _)⟩


theorem refdoes_any (q : Nat) (S : List Ac) (o : OpC) (w : World) (h : RfS w q S) (hI : Inv S) (ho : o.ok) :
    Calls Try.prog 12 #[.pointer (some ⟨q, 0, none⟩), o.val] w (DeedsR q (doesE S o) (doesS S o) w) := by
  have up : ∀ W, Fr No w W → Fr (At1 q) w W := fun W hW => hW.mono fun _ _ h => False.elim h
  refine (doesref_gen _ o w (doesE S o) (fun W => RfS W q (doesS S o) ∧ Fr (At1 q) w W) ho (fun W W' hW hf => ⟨hW.1.no hf, hW.2.trans (hf.mono fun _ _ h => False.elim h)⟩) ?_ ?_ ?_ ?_).mono fun e w' h => ⟨h.1, h.2.1, h.2.2⟩
  · intro hk W hW
    have e1 : doesE S o = openE S o.name.data.toList o.x := by unfold doesE; rw [if_pos hk]
    have e2 : doesS S o = openS S o.name.data.toList o.x := by unfold doesS; rw [if_pos hk]
    rw [e1, e2]
    exact (refopen_any q S o.name o.x W (h.no hW) hI ho.2.2 ho.2.1).mono fun _ _ h => ⟨h.1, h.2.1, (up W hW).trans h.2.2⟩
  · intro hk W hW
    have e1 : doesE S o = actE (fun a => giveE a o.x) S o.name.data.toList := by unfold doesE; rw [if_neg (by omega), if_pos hk]
    have e2 : doesS S o = actS (fun a => giveE a o.x) (fun a => giveA a o.x) S o.name.data.toList := by unfold doesS; rw [if_neg (by omega), if_pos hk]
    rw [e1, e2]
    exact (refgive_any q S o.name o.x W (h.no hW) hI ho.2.1).mono fun _ _ h => ⟨h.1, h.2.1, (up W hW).trans h.2.2⟩
  · intro hk W hW
    have e1 : doesE S o = actE (fun a => asideE a o.x) S o.name.data.toList := by unfold doesE; rw [if_neg (by omega), if_neg (by omega), if_pos hk]
    have e2 : doesS S o = actS (fun a => asideE a o.x) (fun a => asideA a o.x) S o.name.data.toList := by unfold doesS; rw [if_neg (by omega), if_neg (by omega), if_pos hk]
    rw [e1, e2]
    exact (refaside_any q S o.name o.x W (h.no hW) hI ho.2.1).mono fun _ _ h => ⟨h.1, h.2.1, (up W hW).trans h.2.2⟩
  · intro hk W hW
    have e1 : doesE S o = if (getA S o.name.data.toList).isSome then 0 else 6 := by unfold doesE; rw [if_neg (by omega), if_neg (by omega), if_neg (by omega)]
    have e2 : doesS S o = S := by unfold doesS; rw [if_neg (by omega), if_neg (by omega), if_neg (by omega)]
    rw [e1, e2]
    exact (refget_any q S o.name W (h.no hW) hI).mono fun _ _ h' => ⟨_, h'.1, h.no (hW.trans h'.2), (up W hW).trans (h'.2.mono fun _ _ h => False.elim h)⟩
end Go.Proofs.Ytneelnfcjmbboaa
