/- Contracts of package chart: Aside's and Get's deeds. Contracts of package chart: Get. Contracts of package chart: All. Contracts of package chart: a chart that is nil. What holds of a chart's accounts. What the laws on charts share: Same, early, scripts. The document's own Name. Contracts of the document's own answers for coins: numbers of two halves. Contracts of the document's own answers for coins: Total, Times, Share. The document's own chart, a list in order: its state in memory, and the mathematics of it. The document's own chart: Ahead, At, Free. -/
import Derived.Test.YtlanhclgbkhdlaaGreatQ02
import Derived.Test.YtlanhclgbkhdlaaGreatIter
import Derived.Deep.QuietTactic
import Derived.BigQuiet
import Derived.Sort.Walk0
import Derived.Deep.DeepCutAuto
import Derived.Deep.DrawnRows
import Derived.Handy
namespace Go.Proofs.YtlanhclgbkhdlaaGreat
open Go.RowKit Go.My Go.Maps
set_option linter.unusedSimpArgs false
set_option linter.unusedVariables false
attribute [local go_sem ↓] Go.wp_at_zero Go.wp_at_succ

set_option maxRecDepth 100000 in
set_option maxHeartbeats 2000000 in
theorem aside1_any (q xb : Nat) (a : Ac) (x : Int) (w : World) (h : AcB w q a) (hx : XB w xb x) (hne : q ≠ xb) (ha : OkA a) (hxi : In64 x) :
    Calls Tryz.prog 129 #[.pointer (some ⟨q, 0, none⟩), .pointer (some ⟨xb, 0, none⟩)] w (DeedRet q (asideE a x) (asideA a x) w) := by
  have HL : Hid (∀ W : World, Calls Tryz.prog 130 #[.int .i64 a.st, .int .i64 x] W fun e w' => e = .returned (two64 (a.st + x)) ∧ w' = W) := fun W => (add_any a.st x W (by have := ha.2.1; unfold In64; omega) hxi).mono fun _ _ h => ⟨h.1, h.2.symm⟩
  have HCG : Hid (∀ W : World, 0 < x → Calls Tryz.prog 131 #[.agg #[.string ⟨a.name.toArray⟩, .int .i64 a.hv, .int .i64 a.st, .int .i64 a.lim], .int .i64 x] W fun e w' => e = .returned (.bool (freeB a x)) ∧ Below W.heap.size W w') := fun W h0 =>
    cangive_any a x W ha ⟨h0, by unfold In64 at hxi; omega⟩
  have HA := Lib.hid h
  have HX := Lib.hid hx
  have hql := h.lt
  have hxl := hx.lt
  have HE : Hid (asideE a x = (if In64 (a.st + x) then (if 0 < x ∧ freeB a x = false then 9 else if a.st + x < 0 then 13 else 0) else 2) ∧ asideA a x = if asideE a x = 0 then { a with st := a.st + x } else a) := ⟨rfl, rfl⟩
  generalize asideE a x = ge at *
  generalize asideA a x = ga at *
  generalize freeB a x = fb at *
  obtain ⟨nm, hv, st, lim⟩ := a
  simp only at *
  obtain ⟨c0, c1, c2, c3⟩ := acb_cells h
  have d0 := hx.cell 0
  simp only [List.getElem?_toArray, List.getElem?_cons_zero] at d0
  have HF : Hid (∀ W, Fr No w W → AcB W q ⟨nm, hv, st, lim⟩ ∧ (W.cell? ⟨q, 0, none⟩ = some (.string ⟨nm.toArray⟩) ∧ W.cell? ⟨q, 1, none⟩ = some (.int .i64 hv) ∧ W.cell? ⟨q, 2, none⟩ = some (.int .i64 st) ∧ W.cell? ⟨q, 3, none⟩ = some (.int .i64 lim) ∧ W.cell? ⟨xb, 0, none⟩ = some (.int .i64 x))) := fun W hW => by
    have hA : AcB W q ⟨nm, hv, st, lim⟩ := Blk.fr h hW (fun h => h)
    have hB : XB W xb x := Blk.fr hx hW (fun h => h)
    obtain ⟨e0, e1, e2, e3⟩ := acb_cells hA
    exact ⟨hA, e0, e1, e2, e3, hB.cell 0⟩
  have HEND : Hid (∀ W, Fr No w W → DeedRet q 0 ⟨nm, hv, st + x, lim⟩ w (.returned (.int .i64 0)) (W.setCell ⟨q, 2, none⟩ (.int .i64 (st + x)))) := fun W hW => by
    have hA : AcB W q ⟨nm, hv, st, lim⟩ := Blk.fr h hW (fun h => h)
    exact ⟨rfl, hA.set_ 2 (.int .i64 (st + x)), Fr.setCell (S := At1 q) (p := ⟨q, 2, none⟩) (hW.mono fun _ _ h => False.elim h) (fun _ => rfl) _⟩
  have HSTAY : Hid (∀ n W, Fr No w W → DeedRet q n ⟨nm, hv, st, lim⟩ w (.returned (.int .i64 n)) W) := fun n W hW => ⟨rfl, Blk.fr h hW (fun h => h), hW.mono fun _ _ h => False.elim h⟩
  unfold In64 at hxi
  clear h hx ha HA HX
  by_cases hin : In64 (st + x)
  · rw [two64_in hin] at HL
    rw [if_pos hin] at HE
    unfold In64 at hin
    go_enter Tryz.func129, Tryz.ntmps129
    go_wp2_with fail
    go_quiet ((go_at_call 130; exact Calls.quiet_of_same (HL.out _)))
    by_cases hpos : 0 < x
    · have HP := Lib.hid hpos
      go_upto_region 4 with (fail)
      have hw1 : Fr No w (w.drewN nq).drew := ((Fr.refl _ _).drewN nq).drew
      cases fb
      · have HEE : Hid (ge = 9 ∧ ga = ⟨nm, hv, st, lim⟩) := by
          have h1 := HE.out
          rw [if_pos ⟨hpos, rfl⟩] at h1
          exact ⟨h1.1, by rw [h1.2, h1.1, if_neg (by decide)]⟩
        go_region_held3 (fun W => W.cell? ⟨q, 0, none⟩ = some (.string ⟨nm.toArray⟩) ∧ W.cell? ⟨q, 1, none⟩ = some (.int .i64 hv) ∧ W.cell? ⟨q, 2, none⟩ = some (.int .i64 st) ∧ W.cell? ⟨q, 3, none⟩ = some (.int .i64 lim) ∧ W.cell? ⟨xb, 0, none⟩ = some (.int .i64 x))
          (first | exact (HF.out _ hw1).2 | exact (HF.out _ hf3).2)
          (first | (go_at_call 131; refine (HCG.out _ HP.out).mono ?_; rintro e w3 ⟨rfl, hb3⟩; have hf3 := hw1.trans (Fr.of_below hb3 _)))
        go_wp2
        go_ret
        obtain ⟨rfl, rfl⟩ := HEE.out
        exact HSTAY.out 9 _ hf3
      · by_cases hneg : st + x < 0
        · have HEE : Hid (ge = 13 ∧ ga = ⟨nm, hv, st, lim⟩) := by
            have h1 := HE.out
            rw [if_neg (by simp), if_pos hneg] at h1
            exact ⟨h1.1, by rw [h1.2, h1.1, if_neg (by decide)]⟩
          have hdn : decide (st + x < 0) = true := decide_eq_true hneg
          go_region_held3 (fun W => W.cell? ⟨q, 0, none⟩ = some (.string ⟨nm.toArray⟩) ∧ W.cell? ⟨q, 1, none⟩ = some (.int .i64 hv) ∧ W.cell? ⟨q, 2, none⟩ = some (.int .i64 st) ∧ W.cell? ⟨q, 3, none⟩ = some (.int .i64 lim) ∧ W.cell? ⟨xb, 0, none⟩ = some (.int .i64 x))
            (first | exact (HF.out _ hw1).2 | exact (HF.out _ hf3).2)
            (first | (go_at_call 131; refine (HCG.out _ HP.out).mono ?_; rintro e w3 ⟨rfl, hb3⟩; have hf3 := hw1.trans (Fr.of_below hb3 _)))
          have hf4 := (HF.out _ hf3).2
          go_wp2
          go_ret
          obtain ⟨rfl, rfl⟩ := HEE.out
          exact HSTAY.out 13 _ hf3
        · have HEE : Hid (ge = 0 ∧ ga = ⟨nm, hv, st + x, lim⟩) := by
            have h1 := HE.out
            rw [if_neg (by simp), if_neg hneg] at h1
            exact ⟨h1.1, by rw [h1.2, h1.1, if_pos rfl]⟩
          have hdn : decide (st + x < 0) = false := decide_eq_false hneg
          go_region_held3 (fun W => W.cell? ⟨q, 0, none⟩ = some (.string ⟨nm.toArray⟩) ∧ W.cell? ⟨q, 1, none⟩ = some (.int .i64 hv) ∧ W.cell? ⟨q, 2, none⟩ = some (.int .i64 st) ∧ W.cell? ⟨q, 3, none⟩ = some (.int .i64 lim) ∧ W.cell? ⟨xb, 0, none⟩ = some (.int .i64 x))
            (first | exact (HF.out _ hw1).2 | exact (HF.out _ hf3).2)
            (first | (go_at_call 131; refine (HCG.out _ HP.out).mono ?_; rintro e w3 ⟨rfl, hb3⟩; have hf3 := hw1.trans (Fr.of_below hb3 _)))
          have c2' := (HF.out _ hf3).2.2.2.1
          have f2' := (HF.out _ hf3).1.frozen 2
          go_wp2
          go_ret
          obtain ⟨rfl, rfl⟩ := HEE.out
          exact HEND.out _ hf3
    · have hd : decide (0 < x) = false := decide_eq_false hpos
      have f2 := (HF.out _ (Fr.refl _ _)).1.frozen 2
      by_cases hneg : st + x < 0
      · have HEE : Hid (ge = 13 ∧ ga = ⟨nm, hv, st, lim⟩) := by
          have h1 := HE.out
          rw [if_neg (fun h => hpos h.1), if_pos hneg] at h1
          exact ⟨h1.1, by rw [h1.2, h1.1, if_neg (by decide)]⟩
        have hdn : decide (st + x < 0) = true := decide_eq_true hneg
        go_upto_region 4 with (fail)
        go_quiet (fail)
        go_wp2
        go_ret
        obtain ⟨rfl, rfl⟩ := HEE.out
        first | exact HSTAY.out 13 _ (((Fr.refl _ _).drewN _).drewN _) | exact HSTAY.out 13 _ ((Fr.refl _ _).drewN _)
      · have HEE : Hid (ge = 0 ∧ ga = ⟨nm, hv, st + x, lim⟩) := by
          have h1 := HE.out
          rw [if_neg (fun h => hpos h.1), if_neg hneg] at h1
          exact ⟨h1.1, by rw [h1.2, h1.1, if_pos rfl]⟩
        have hdn : decide (st + x < 0) = false := decide_eq_false hneg
        go_upto_region 4 with (fail)
        go_quiet (fail)
        go_wp2
        go_ret
        obtain ⟨rfl, rfl⟩ := HEE.out
        first | exact HEND.out _ (((Fr.refl _ _).drewN _).drewN _) | exact HEND.out _ ((Fr.refl _ _).drewN _)
  · rw [two64_out hin] at HL
    rw [if_neg hin] at HE
    have HEE : Hid (ge = 2 ∧ ga = ⟨nm, hv, st, lim⟩) := ⟨HE.out.1, by rw [HE.out.2, HE.out.1, if_neg (by decide)]⟩
    clear hin
    go_enter Tryz.func129, Tryz.ntmps129
    go_wp2_with fail
    go_quiet ((go_at_call 130; exact Calls.quiet_of_same (HL.out _)))
    go_wp2
    go_ret
    obtain ⟨rfl, rfl⟩ := HEE.out
    exact HSTAY.out 2 _ ((Fr.refl _ _).drewN _)

/-- an account is read -/
theorem get1_any (q gb : Nat) (a a0 : Ac) (w : World) (h : AcB w q a) (hg : AcB w gb a0) (hne : q ≠ gb) :
    Calls Tryz.prog 123 #[.pointer (some ⟨q, 0, none⟩), .pointer (some ⟨gb, 0, none⟩)] w fun e w' => e = .returned (.int .i64 0) ∧ AcB w' q a ∧ AcB w' gb a ∧ Fr (At1 gb) w w' := by
  obtain ⟨nm, hv, st, lim⟩ := a
  obtain ⟨nm0, hv0, st0, lim0⟩ := a0
  have H1 := Lib.hid h
  have H2 := Lib.hid hg
  have hql := h.lt
  have hgl := hg.lt
  obtain ⟨c0, c1, c2, c3⟩ := acb_cells h
  obtain ⟨d0, d1, d2, d3⟩ := acb_cells hg
  have f0 := hg.frozen 0
  have f1 := hg.frozen 1
  have f2 := hg.frozen 2
  have f3 := hg.frozen 3
  clear h hg
  go_enter Tryz.func123, Tryz.ntmps123
  go_wp2
  go_ret
  have hF : Fr (At1 gb) w ((((w.setCell ⟨gb, 0, none⟩ (.string ⟨nm.toArray⟩)).setCell ⟨gb, 1, none⟩ (.int .i64 hv)).setCell ⟨gb, 2, none⟩ (.int .i64 st)).setCell ⟨gb, 3, none⟩ (.int .i64 lim)) :=
    Fr.setCell (S := At1 gb) (p := ⟨gb, 3, none⟩) (Fr.setCell (S := At1 gb) (p := ⟨gb, 2, none⟩) (Fr.setCell (S := At1 gb) (p := ⟨gb, 1, none⟩) (Fr.setCell (S := At1 gb) (p := ⟨gb, 0, none⟩) (Fr.refl _ _) (fun _ => rfl) _) (fun _ => rfl) _) (fun _ => rfl) _) (fun _ => rfl) _
  exact ⟨rfl, Blk.fr H1.out hF hne, (((Blk.set_ H2.out 0 _).set_ 1 _).set_ 2 _).set_ 3 _, hF⟩

/-- what each account of a chart is -/
def OkS (S : List Ac) : Prop := ∀ a ∈ S, OkA a
/-- what Give and Aside answer, and what is there then -/
def actE (f : Ac → Int) (S : List Ac) (nm : List UInt8) : Int := match getA S nm with | none => 6 | some a => f a
def actS (f : Ac → Int) (g : Ac → Ac) (S : List Ac) (nm : List UInt8) : List Ac := match getA S nm with | none => S | some a => if f a = 0 then putA (g a) S else S
def DeedsE (p m : Nat) (n : Int) (S' : List Ac) (w : World) (e : Ending) (w' : World) : Prop := e = .returned (.int .i64 n) ∧ ChS w' p m S' ∧ Fr (At1 m) w w'

theorem k_give (args : Array Value) (W : World) : (callFunc 133 args).run Tryz.prog W = .ok (.enter 133 args) W := by kernel_rfl
theorem k_aside (args : Array Value) (W : World) : (callFunc 129 args).run Tryz.prog W = .ok (.enter 129 args) W := by kernel_rfl
theorem k_get (args : Array Value) (W : World) : (callFunc 123 args).run Tryz.prog W = .ok (.enter 123 args) W := by kernel_rfl

theorem act_of {p m : Nat} {S : List Ac} {nm : List UInt8} {f : Ac → Int} {g : Ac → Ac} {w w' : World} {e : Ending}
    (h : ChRet p m S nm No (fun a n a' _ => n = f a ∧ a' = g a) w e w') : DeedsE p m (actE f S nm) (actS f g S nm) w e w' := by
  unfold DeedsE actE actS
  rcases h with ⟨hg, rfl, hc, hf⟩ | ⟨a, n, a', hg, rfl, hnm, hc, hf, rfl, rfl⟩
  · rw [hg]
    exact ⟨rfl, hc, hf.mono fun _ _ h => False.elim h⟩
  · rw [hg]
    exact ⟨rfl, hc, hf.mono fun _ _ h => h.resolve_right fun h => h⟩

theorem giveA_name (a : Ac) (x : Int) : (giveA a x).name = a.name := by unfold giveA; split <;> rfl
theorem asideA_name (a : Ac) (x : Int) : (asideA a x).name = a.name := by unfold asideA; split <;> rfl

set_option maxRecDepth 100000 in
theorem give_any (p m : Nat) (S : List Ac) (s : ByteArray) (x : Int) (w : World) (h : ChS w p m S) (hs : s.size ≤ maxLen) (hS : S.length ≤ 12) (ho : OkS S) (hx : In64 x) :
    Calls Tryz.prog 126 #[.pointer (some ⟨p, 0, none⟩), .string s, .int .i64 x] w (DeedsE p m (actE (fun a => giveE a x) S s.data.toList) (actS (fun a => giveE a x) (fun a => giveA a x) S s.data.toList) w) := by
  have HD : Hid (∀ W, ChS W p m S → XB W w.heap.size x → Calls Tryz.prog 122 #[.pointer (some ⟨p, 0, none⟩), .string s, .func (.func 133) #[] #[.pointer (some ⟨w.heap.size, 0, none⟩)]] W (ChRet p m S s.data.toList No (fun a n a' _ => n = giveE a x ∧ a' = giveA a x) W)) := fun W hW hxb => by
    refine change_any _ k_give _ p m S s W hW hs hS No _ (fun h => h) (fun h => h) (fun _ h => False.elim h) (fun _ _ _ _ _ h _ => h) ?_
    intro a W' q hga hf hq hqa
    have hxb' : XB W' w.heap.size x := Blk.fr hxb hf (fun h => h)
    have hl := hxb.lt
    refine (give1_any q w.heap.size a x W' hqa hxb' (by omega) (ho a (getA_some hga).1) hx).mono ?_
    rintro e w3 ⟨rfl, h2, h3⟩
    exact ⟨_, _, rfl, giveA_name a x, h2, h3.mono fun _ _ h => .inl h, rfl, rfl⟩
  have HC := Lib.hid h
  clear h hs ho hx hS
  go_enter Tryz.func126, Tryz.ntmps126
  go_wp2_with fail
  have hf : Fr No w (w.alloc (.cells #[.int .i64 x] 2)) := (Fr.refl _ _).alloc _
  refine (HD.out _ (HC.out.no hf) (Blk.new _ _ _)).mono ?_
  intro e w2 h
  obtain ⟨rfl, h2, h3⟩ := act_of h
  have HE : Hid (DeedsE p m (actE (fun a => giveE a x) S s.data.toList) (actS (fun a => giveE a x) (fun a => giveA a x) S s.data.toList) w (.returned (.int .i64 (actE (fun a => giveE a x) S s.data.toList))) w2) := ⟨rfl, h2, (hf.mono fun _ _ h => False.elim h).trans h3⟩
  clear h h2 h3
  go_wp2
  go_ret
  exact HE.out

set_option maxRecDepth 100000 in
theorem aside_any (p m : Nat) (S : List Ac) (s : ByteArray) (x : Int) (w : World) (h : ChS w p m S) (hs : s.size ≤ maxLen) (hS : S.length ≤ 12) (ho : OkS S) (hx : In64 x) :
    Calls Tryz.prog 119 #[.pointer (some ⟨p, 0, none⟩), .string s, .int .i64 x] w (DeedsE p m (actE (fun a => asideE a x) S s.data.toList) (actS (fun a => asideE a x) (fun a => asideA a x) S s.data.toList) w) := by
  have HD : Hid (∀ W, ChS W p m S → XB W w.heap.size x → Calls Tryz.prog 122 #[.pointer (some ⟨p, 0, none⟩), .string s, .func (.func 129) #[] #[.pointer (some ⟨w.heap.size, 0, none⟩)]] W (ChRet p m S s.data.toList No (fun a n a' _ => n = asideE a x ∧ a' = asideA a x) W)) := fun W hW hxb => by
    refine change_any _ k_aside _ p m S s W hW hs hS No _ (fun h => h) (fun h => h) (fun _ h => False.elim h) (fun _ _ _ _ _ h _ => h) ?_
    intro a W' q hga hf hq hqa
    have hxb' : XB W' w.heap.size x := Blk.fr hxb hf (fun h => h)
    have hl := hxb.lt
    refine (aside1_any q w.heap.size a x W' hqa hxb' (by omega) (ho a (getA_some hga).1) hx).mono ?_
    rintro e w3 ⟨rfl, h2, h3⟩
    exact ⟨_, _, rfl, asideA_name a x, h2, h3.mono fun _ _ h => .inl h, rfl, rfl⟩
  have HC := Lib.hid h
  clear h hs ho hx hS
  go_enter Tryz.func119, Tryz.ntmps119
  go_wp2_with fail
  have hf : Fr No w (w.alloc (.cells #[.int .i64 x] 2)) := (Fr.refl _ _).alloc _
  refine (HD.out _ (HC.out.no hf) (Blk.new _ _ _)).mono ?_
  intro e w2 h
  obtain ⟨rfl, h2, h3⟩ := act_of h
  have HE : Hid (DeedsE p m (actE (fun a => asideE a x) S s.data.toList) (actS (fun a => asideE a x) (fun a => asideA a x) S s.data.toList) w (.returned (.int .i64 (actE (fun a => asideE a x) S s.data.toList))) w2) := ⟨rfl, h2, (hf.mono fun _ _ h => False.elim h).trans h3⟩
  clear h h2 h3
  go_wp2
  go_ret
  exact HE.out

/-- what Get answers -/
def getV (S : List Ac) (nm : List UInt8) : Ac := (getA S nm).getD noA
def GotC (p m : Nat) (S : List Ac) (nm : List UInt8) (w : World) (e : Ending) (w' : World) : Prop :=
  e = .returned (.tuple #[(getV S nm).val, .int .i64 (if (getA S nm).isSome then 0 else 6)]) ∧ ChS w' p m S ∧ Fr (At1 m) w w'

theorem putA_self {S : List Ac} {a : Ac} (hr : Rise S) (h : getA S a.name = some a) : putA a S = S := by
  induction S with
  | nil => cases h
  | cons c r ih =>
    obtain ⟨h1, h2⟩ := List.pairwise_cons.1 hr
    have hsame : ∀ b : Ac, b.key.sameKey a.key = (b.name == a.name) := fun _ => rfl
    unfold getA at h
    rw [List.find?_cons] at h
    unfold putA
    rw [List.filter_cons, hsame]
    by_cases hc : c.name = a.name
    · rw [beq_iff_eq.2 hc] at h ⊢
      simp only at h
      injection h with h
      subst h
      have hfil : r.filter (fun b => !b.key.sameKey c.key) = r := by
        rw [List.filter_eq_self]
        intro b hb
        rw [hsame]
        have h3 := h1 b hb
        cases he : b.name == c.name
        · rfl
        · rw [show b.key = c.key by unfold Ac.key; rw [beq_iff_eq.1 he], WideShapes.before_irrefl] at h3
          cases h3
      rw [hfil]
      simp only [Bool.not_true, Bool.false_eq_true, if_false]
      cases r with
      | nil => rfl
      | cons b r =>
        unfold insA
        rw [if_pos (h1 b List.mem_cons_self)]
    · have hcb : (c.name == a.name) = false := by rw [beq_eq_false_iff_ne]; exact hc
      rw [hcb] at h ⊢
      simp only [Bool.not_false, if_true]
      have ham : a ∈ r := List.mem_of_find?_eq_some h
      unfold insA
      rw [if_neg (fun h' => by
        have h3 := WideShapes.before_trans h' (h1 a ham)
        rw [WideShapes.before_irrefl] at h3
        cases h3)]
      have := ih h2 h
      unfold putA at this
      rw [this]

theorem getch_any (b p m : Nat) (S : List Ac) (s : ByteArray) (W : World) (hW : ChS W p m S) (hs : s.size ≤ maxLen) (hS : S.length ≤ 12) (hgb : AcB W b noA) (hm : m < b) (hp : p < b) (hl : b < W.heap.size) :
    Calls Tryz.prog 122 #[.pointer (some ⟨p, 0, none⟩), .string s, .func (.func 123) #[] #[.pointer (some ⟨b, 0, none⟩)]] W (ChRet p m S s.data.toList (At1 b) (fun a n a' W => n = 0 ∧ a' = a ∧ AcB W b a) W) := by
  have h1 : ¬ At1 b p := fun h => by have : p = b := h; omega
  have h2 : ¬ At1 b m := fun h => by have : m = b := h; omega
  have h3 : ∀ i, At1 b i → i < W.heap.size := fun i h => by have : i = b := h; omega
  have h4 : ∀ (a : Ac) (n : Int) (a' : Ac) (W W' : World), (n = 0 ∧ a' = a ∧ AcB W b a) → Fr (At1 m) W W' → (n = 0 ∧ a' = a ∧ AcB W' b a) := fun a n a' W W' hR hf => ⟨hR.1, hR.2.1, Blk.fr hR.2.2 hf (fun h => by have : b = m := h; omega)⟩
  refine change_any _ k_get _ p m S s W hW hs hS (At1 b) _ h1 h2 h3 h4 ?_
  intro a W' q hga hf hq hqa
  have hgb' : AcB W' b noA := Blk.fr hgb hf (fun h => h)
  refine (get1_any q b a noA W' hqa hgb' (by omega)).mono ?_
  rintro e w3 ⟨rfl, h2, h3, h4⟩
  exact ⟨_, _, rfl, rfl, h2, h4.mono fun _ _ h => .inr h, rfl, rfl, h3⟩

end Go.Proofs.YtlanhclgbkhdlaaGreat

namespace Go.Proofs.YtlanhclgbkhdlaaGreat
open Go.RowKit Go.My Go.Maps
set_option linter.unusedSimpArgs false
set_option linter.unusedVariables false
attribute [local go_sem ↓] Go.wp_at_zero Go.wp_at_succ

set_option maxRecDepth 100000 in
theorem get_any (p m : Nat) (S : List Ac) (s : ByteArray) (w : World) (h : ChS w p m S) (hs : s.size ≤ maxLen) (hS : S.length ≤ 12) :
    Calls Tryz.prog 115 #[.pointer (some ⟨p, 0, none⟩), .string s] w (GotC p m S s.data.toList w) := by
  have HD : Hid (∀ b W, Fr No w W → w.heap.size ≤ b → b < W.heap.size → AcB W b noA → Calls Tryz.prog 122 #[.pointer (some ⟨p, 0, none⟩), .string s, .func (.func 123) #[] #[.pointer (some ⟨b, 0, none⟩)]] W (ChRet p m S s.data.toList (At1 b) (fun a n a' W => n = 0 ∧ a' = a ∧ AcB W b a) W)) := fun b W hw hb hl hgb =>
    getch_any b p m S s W (h.no hw) hs hS hgb (by have := h.2.lt; omega) (by have := h.1.lt; omega) hl
  have HC := Lib.hid h
  have HRS := Lib.hid h.2.2
  have hml := h.2.lt
  have hpl := h.1.lt
  clear h hs hS
  go_enter Tryz.func115, Tryz.ntmps115
  go_wp2_with fail
  have hf : Fr No w ((w.alloc (.cells #[.string ⟨#[]⟩, .int .i64 0, .int .i64 0, .int .i64 0] 63)).alloc (.cells #[.string ⟨#[]⟩, .int .i64 0, .int .i64 0, .int .i64 0] 63)) := ((Fr.refl _ _).alloc _).alloc _
  have hb : AcB ((w.alloc (.cells #[.string ⟨#[]⟩, .int .i64 0, .int .i64 0, .int .i64 0] 63)).alloc (.cells #[.string ⟨#[]⟩, .int .i64 0, .int .i64 0, .int .i64 0] 63)) (w.heap.size + 1) noA := by
    have h1 := Blk.new (w.alloc (.cells #[.string ⟨#[]⟩, .int .i64 0, .int .i64 0, .int .i64 0] 63)) 63 #[.string ⟨#[]⟩, .int .i64 0, .int .i64 0, .int .i64 0]
    rw [World.size_alloc] at h1
    exact h1
  have hr : AcB ((w.alloc (.cells #[.string ⟨#[]⟩, .int .i64 0, .int .i64 0, .int .i64 0] 63)).alloc (.cells #[.string ⟨#[]⟩, .int .i64 0, .int .i64 0, .int .i64 0] 63)) w.heap.size noA :=
    Blk.fr (Blk.new w 63 #[.string ⟨#[]⟩, .int .i64 0, .int .i64 0, .int .i64 0]) ((Fr.refl No _).alloc _) (fun h => h)
  have hsz : ((w.alloc (.cells #[.string ⟨#[]⟩, .int .i64 0, .int .i64 0, .int .i64 0] 63)).alloc (.cells #[.string ⟨#[]⟩, .int .i64 0, .int .i64 0, .int .i64 0] 63)).heap.size = w.heap.size + 2 := by simp
  refine (HD.out (w.heap.size + 1) _ hf (by omega) (by omega) hb).mono ?_
  generalize ((w.alloc (.cells #[.string ⟨#[]⟩, .int .i64 0, .int .i64 0, .int .i64 0] 63)).alloc (.cells #[.string ⟨#[]⟩, .int .i64 0, .int .i64 0, .int .i64 0] 63)) = w1 at *
  intro e w2 h
  obtain ⟨V, n, hV, hn, rfl, hc, hF, hb2, hr2⟩ : ∃ V n, getV S s.data.toList = V ∧ n = (if (getA S s.data.toList).isSome then 0 else 6) ∧ e = .returned (.int .i64 n) ∧ ChS w2 p m S ∧ Fr (At1 m) w w2 ∧ AcB w2 (w.heap.size + 1) V ∧ AcB w2 w.heap.size noA := by
    rcases h with ⟨hg, rfl, hc, hf2⟩ | ⟨a, n, a', hg, rfl, hnm, hc, hf2, rfl, rfl, hb2⟩
    · exact ⟨_, _, rfl, rfl, by rw [hg]; rfl, hc, (hf.trans hf2).mono fun _ _ h => False.elim h, by unfold getV; rw [hg]; exact Blk.fr hb hf2 (fun h => h), Blk.fr hr hf2 (fun h => h)⟩
    · refine ⟨_, _, rfl, rfl, by rw [hg]; rfl, ?_, ?_, by unfold getV; rw [hg]; exact hb2, Blk.fr hr hf2 (fun h => ?_)⟩
      · rw [if_pos rfl, putA_self HRS.out (by rw [hnm]; exact hg)] at hc
        exact hc
      · refine (hf.mono (T := At1 m) fun _ _ h => False.elim h).trans' hf2 fun i hi hlt => ?_
        rcases hi with rfl | hi
        · rfl
        · have : i = w.heap.size + 1 := hi
          omega
      · rcases h with h | h
        · omega
        · have : w.heap.size = w.heap.size + 1 := h
          omega
  obtain ⟨nm, hv, st, lim⟩ := V
  obtain ⟨c0, c1, c2, c3⟩ := acb_cells hb2
  obtain ⟨d0, d1, d2, d3⟩ := acb_cells hr2
  have f0 := hr2.frozen 0
  have f1 := hr2.frozen 1
  have f2 := hr2.frozen 2
  have f3 := hr2.frozen 3
  have hrl := hr2.lt
  have HF : Hid (ChS w2 p m S ∧ Fr (At1 m) w w2 ∧ getV S s.data.toList = ⟨nm, hv, st, lim⟩ ∧ n = (if (getA S s.data.toList).isSome then 0 else 6)) := ⟨hc, hF, hV, hn⟩
  clear h hc hF hb2 hr2 hV hn hf hb hr hsz
  go_wp2
  have HW : Fr (At1 w.heap.size) w2 ((((w2.setCell ⟨w.heap.size, 0, none⟩ (.string ⟨nm.toArray⟩)).setCell ⟨w.heap.size, 1, none⟩ (.int .i64 hv)).setCell ⟨w.heap.size, 2, none⟩ (.int .i64 st)).setCell ⟨w.heap.size, 3, none⟩ (.int .i64 lim)) :=
    Fr.setCell (S := At1 w.heap.size) (p := ⟨w.heap.size, 3, none⟩) (Fr.setCell (S := At1 w.heap.size) (p := ⟨w.heap.size, 2, none⟩) (Fr.setCell (S := At1 w.heap.size) (p := ⟨w.heap.size, 1, none⟩) (Fr.setCell (S := At1 w.heap.size) (p := ⟨w.heap.size, 0, none⟩) (Fr.refl _ _) (fun _ => rfl) _) (fun _ => rfl) _) (fun _ => rfl) _) (fun _ => rfl) _
  refine bodyPost_ret (v := .tuple #[.agg #[.string ⟨nm.toArray⟩, .int .i64 hv, .int .i64 st, .int .i64 lim], .int .i64 n]) (by simp [results, Tryz.results115, go_sem, d0, d1, d2, d3, f0, f1, f2, f3]) rfl ?_
  obtain ⟨hc, hF, hV, hn⟩ := HF.out
  refine ⟨by rw [hV, hn]; rfl, hc.fr HW (fun h => by have : p = w.heap.size := h; omega) (fun h => by have : m = w.heap.size := h; omega), hF.trans' HW fun i hi hlt => ?_⟩
  have : i = w.heap.size := hi
  omega
end Go.Proofs.YtlanhclgbkhdlaaGreat

namespace Go.Proofs.YtlanhclgbkhdlaaGreat
open Go.RowKit Go.My Go.Maps
set_option linter.unusedSimpArgs false
set_option linter.unusedVariables false

/-- an account's cells -/
def acC (a : Ac) : List Value := [.string ⟨a.name.toArray⟩, .int .i64 a.hv, .int .i64 a.st, .int .i64 a.lim]
def acs (S : List Ac) : List Value := S.flatMap acC
theorem acs_length (S : List Ac) : (acs S).length = S.length * 4 := by
  induction S with
  | nil => rfl
  | cons a S ih => show (acC a ++ acs S).length = _; rw [List.length_append, ih, List.length_cons]; simp [acC]; omega
theorem acs_append (S T : List Ac) : acs (S ++ T) = acs S ++ acs T := by unfold acs; rw [List.flatMap_append]
theorem acs_one (a : Ac) : acs [a] = acC a := by simp [acs]
/-- names that a map takes -/
def NmS (S : List Ac) : Prop := ∀ a ∈ S, a.name.length ≤ 8

theorem elA : El Tryz.prog 60 63 4 40 := ⟨Tryz.underlying60, by
  have h : (Tryz.prog.info? 63).map (fun i => (i.zero, i.size, i.bytes)) = some (some (.agg #[.string ⟨#[]⟩, .int .i64 0, .int .i64 0, .int .i64 0]), 4, 40) := by kernel_rfl
  obtain ⟨i, hi, hz, hs, hb⟩ := info_parts h
  exact ⟨i, _, hi, hz, hs, hb, rfl⟩, by omega⟩

theorem getA_mem {S : List Ac} (hr : Rise S) {a : Ac} (h : a ∈ S) : getA S a.name = some a := by
  cases hg : getA S a.name with
  | none => exact absurd rfl (getA_none hg a h)
  | some b =>
    obtain ⟨hb, hn⟩ := getA_some hg
    induction S with
    | nil => cases h
    | cons c r ih =>
      obtain ⟨h1, h2⟩ := List.pairwise_cons.1 hr
      unfold getA at hg
      rw [List.find?_cons] at hg
      by_cases hc : c.name = a.name
      · rw [beq_iff_eq.2 hc] at hg
        injection hg with hg
        subst hg
        rcases List.mem_cons.1 h with rfl | h
        · rfl
        · have h3 := h1 a h
          rw [show c.key = a.key by unfold Ac.key; rw [hc], WideShapes.before_irrefl] at h3
          cases h3
      · rw [beq_eq_false_iff_ne.2 hc] at hg
        rcases List.mem_cons.1 h with rfl | h
        · exact absurd rfl hc
        · have hbr : b ∈ r := List.mem_of_find?_eq_some hg
          exact ih h2 h hg hbr

theorem MpS.look_at {w : World} {m : Nat} {S : List Ac} (h : MpS w m S) (hN : NmS S) (k : Nat) (hk : k < S.length) :
    (Instr.lookup 112 (.map (some m)) (.string ⟨S[k].name.toArray⟩) false).run Tryz.prog w = .ok (.agg #[.string ⟨S[k].name.toArray⟩, .int .i64 S[k].hv, .int .i64 S[k].st, .int .i64 S[k].lim]) w := by
  have hm : S[k] ∈ S := List.getElem_mem hk
  obtain ⟨v, ps, hrun, hv⟩ := h.1.lookup law Tryz.underlying112 (zeroA w) (acR_val noA) (key_mk ⟨S[k].name.toArray⟩ (by have := hN _ hm; show S[k].name.length ≤ _; unfold maxLen; omega))
  rw [at_dOf] at hv
  rw [show (⟨S[k].name.toArray⟩ : ByteArray).data.toList = S[k].name from rfl, getA_mem h.2 hm] at hv
  rw [acR_at hv] at hrun
  exact hrun

def AllRel (w : World) (m : Nat) (S : List Ac) (lv iv : Value) (wr : World) : Prop :=
  ∃ k : Nat, k ≤ S.length ∧ iv = .int .i64 k ∧ Own wr 63 4 lv k (acs (S.take k)) ∧ Fr No w wr ∧ Newer w.heap.size none lv.ownBlock

theorem list_mk (l : List UInt8) : (⟨⟨l⟩⟩ : ByteArray) = ⟨l.toArray⟩ := rfl

set_option maxRecDepth 100000 in
set_option maxHeartbeats 1000000 in
theorem all_any (p m : Nat) (S : List Ac) (w : World) (h : ChS w p m S) (hN : NmS S) (hS : S.length ≤ 12) :
    Calls Tryz.prog 36 #[.pointer (some ⟨p, 0, none⟩)] w (RetOwn w 63 4 none S.length (acs S)) := by
  have HC := Lib.hid h
  have HN := Lib.hid hN
  have hpl := h.1.lt
  have hml := h.2.lt
  have c0 := h.1.cell 0
  simp only [List.getElem?_toArray, List.getElem?_cons_zero] at c0
  have HKEYS : Hid (Calls Tryz.prog 51 #[.map (some m)] w fun e w' => e = .returned (.func (.func 69) #[] #[.pointer (some ⟨w.heap.size, 0, none⟩)]) ∧ w' = w.alloc (.cells #[.map (some m)] 112)) := callsIn_wide.1 (Tryz.maps_Keys_51 (some m) w)
  have HSORT : Hid (Calls Tryz.prog 50 #[.func (.func 69) #[] #[.pointer (some ⟨w.heap.size, 0, none⟩)]] (w.alloc (.cells #[.map (some m)] 112)) fun e w' => ∃ v, e = .returned v ∧ Own w' 9 1 v S.length (S.map fun a => .string ⟨a.name.toArray⟩) ∧ Fr No w w' ∧ ∀ k, v.ownBlock = some k → w.heap.size ≤ k) := by
    refine Calls.mono (callsIn_wide.1 (Tryz.slices_Sorted_keys_50_51 m S.length (dOf S) acR w h.2.1 (by rw [size_dOf]; unfold maxLen; omega) (by rw [size_dOf]; omega))) ?_
    rintro e w' ⟨v, ss, rfl, hp, hown, _, hb⟩
    have h1 := sorted_names h.2.2 hp
    have hl : ss.length = S.length := by rw [hp.length_eq, keys_dOf, List.length_map]
    have h2 : (ss.mergeSort fun x y => decide (x ≤ y)) = S.map Ac.name := h1
    rw [h2, hl, List.map_map] at hown
    refine ⟨v, rfl, Own.of_owns hown, ((Fr.refl No w).alloc _).trans (Fr.of_below hb _), fun k hk => ?_⟩
    have := (hown.lt k hk).1
    rw [World.size_alloc] at this
    omega
  clear h hN
  go_enter Tryz.func36, Tryz.ntmps36
  go_wp2_with (first | (go_at_call 51; refine HKEYS.out.mono ?_; rintro e w1 ⟨rfl, rfl⟩) | (go_at_call 50; refine HSORT.out.mono ?_; rintro e w2 ⟨v, rfl, hnames, hf2, hnew2⟩; obtain ⟨A, c, rfl, hlc, hcm⟩ := hnames.form))
  have hsc : Hid (S.length * 1 = S.length) := by show _ = _; omega
  go_loopw [3, 15] (fun lv iv wr => AllRel w2 m S lv iv wr) (fun _ iv _ => S.length - (intOf iv).toNat)
  case atStart => exact ⟨0, Nat.zero_le _, rfl, Own.nil _ _ _, Fr.refl _ _, .inl rfl⟩
  case round =>
    obtain ⟨k, hk, rfl, hown, hfr, hnew⟩ := hrel
    by_cases hlt : k < S.length
    · obtain ⟨ad, u, rfl, _, hx, hcu⟩ := (hnames.rd.fr (by omega) hfr (fun _ _ _ h => h)).at_ hlt
      rw [List.getElem?_map, List.getElem?_eq_getElem hlt] at hx
      simp only [Option.map_some] at hx
      injection hx with hx
      subst hx
      have hCr := HC.out.no (hf2.trans hfr)
      have p0 := hCr.1.cell 0
      simp only [List.getElem?_toArray, List.getElem?_cons_zero] at p0
      have hlk := hCr.2.look_at HN.out k hlt
      have E : Hid (acs (S.take (k + 1)) = acs (S.take k) ++ [.string ⟨S[k].name.toArray⟩, .int .i64 S[k].hv, .int .i64 S[k].st, .int .i64 S[k].lim]) := by
        show _ = _
        rw [List.take_succ_eq_append_getElem hlt, acs_append, acs_one]
        rfl
      have hX : Hid (k + 1 ≤ maxLen ∧ (k + 1) * 40 ≤ 140737488355328) := by
        refine ⟨?_, ?_⟩ <;> (try simp only [maxLen]) <;> omega
      generalize S[k].name.toArray = nma at *
      generalize S[k].hv = hv at *
      generalize S[k].st = st at *
      generalize S[k].lim = lim at *
      clear hk hCr
      go_wp2_with (at_builtin; refine wpList_app _ rfl (.tmp 19) (.tmp 26) 60 60 rfl elA (hown.alloc _) rfl (Src.of_new wr.heap.size (heap_alloc_new wr _) Tryz.underlying60 rfl (by simp [Value.oneCell'])) rfl hX.out.1 hX.out.2 ?_; intro v1 w3 hown3 hfr3 hnew3)
      go_roundw
      case rel =>
        refine ⟨k + 1, by omega, by go_num, ?_, ?_, ?_⟩
        · rw [E.out]
          exact hown3
        · exact fr_no (hfr.alloc _) hnew hfr3
        · exact hnew.trans (Newer.of hnew3) (by have := hfr.size; simp; omega)
      case measure => simp [intOf]; omega
    · obtain rfl : k = S.length := by omega
      rw [List.take_length] at hown
      go_wp2
      go_ret
      refine ⟨_, rfl, hown, (hf2.trans hfr).mono fun _ _ h => False.elim h, ?_⟩
      have := hf2.size
      exact Newer.trans (.inl rfl) hnew (by omega)
end Go.Proofs.YtlanhclgbkhdlaaGreat

namespace Go.Proofs.YtlanhclgbkhdlaaGreat
open Go.RowKit Go.My Go.Maps
set_option linter.unusedSimpArgs false
set_option linter.unusedVariables false
attribute [local go_sem ↓] Go.wp_at_zero Go.wp_at_succ

theorem change_nil (s f : Value) (w : World) : Calls Tryz.prog 122 #[.pointer none, s, f] w fun e w' => e = .returned (.int .i64 1) ∧ w' = w := by
  go_enter Tryz.func122, Tryz.ntmps122
  go_wp2
  go_ret
  exact ⟨rfl, rfl⟩
theorem open_nil (s l : Value) (w : World) : Calls Tryz.prog 98 #[.pointer none, s, l] w fun e w' => e = .returned (.int .i64 1) ∧ Fr No w w' := by
  go_enter Tryz.func98, Tryz.ntmps98
  go_wp2
  go_ret
  exact ⟨rfl, Fr.refl _ _⟩
theorem all_nil (w : World) : Calls Tryz.prog 36 #[.pointer none] w fun e w' => e = .returned (.slice none 0 0) ∧ w' = w := by
  go_enter Tryz.func36, Tryz.ntmps36
  go_wp2
  go_ret
  exact ⟨rfl, rfl⟩
theorem copy_nil (w : World) : Calls Tryz.prog 52 #[.pointer none] w fun e w' => e = .returned (.pointer none) ∧ w' = w := by
  go_enter Tryz.func52, Tryz.ntmps52
  go_wp2
  go_ret
  exact ⟨rfl, rfl⟩
theorem give_nil (s : ByteArray) (x : Int) (w : World) : Calls Tryz.prog 126 #[.pointer none, .string s, .int .i64 x] w fun e w' => e = .returned (.int .i64 1) ∧ Fr No w w' := by
  have HD := Lib.hid fun f W => change_nil (.string s) f W
  go_enter Tryz.func126, Tryz.ntmps126
  go_wp2_with (go_at_call 122; refine (HD.out _ _).mono ?_; rintro e w1 ⟨rfl, rfl⟩)
  go_ret
  exact ⟨rfl, (Fr.refl _ _).alloc _⟩
theorem aside_nil (s : ByteArray) (x : Int) (w : World) : Calls Tryz.prog 119 #[.pointer none, .string s, .int .i64 x] w fun e w' => e = .returned (.int .i64 1) ∧ Fr No w w' := by
  have HD := Lib.hid fun f W => change_nil (.string s) f W
  go_enter Tryz.func119, Tryz.ntmps119
  go_wp2_with (go_at_call 122; refine (HD.out _ _).mono ?_; rintro e w1 ⟨rfl, rfl⟩)
  go_ret
  exact ⟨rfl, (Fr.refl _ _).alloc _⟩

set_option maxRecDepth 100000 in
theorem get_nil (s : ByteArray) (w : World) : Calls Tryz.prog 115 #[.pointer none, .string s] w fun e w' => e = .returned (.tuple #[noA.val, .int .i64 1]) ∧ Fr No w w' := by
  have HD := Lib.hid fun f W => change_nil (.string s) f W
  go_enter Tryz.func115, Tryz.ntmps115
  go_wp2_with fail
  have hf : Fr No w ((w.alloc (.cells #[.string ⟨#[]⟩, .int .i64 0, .int .i64 0, .int .i64 0] 63)).alloc (.cells #[.string ⟨#[]⟩, .int .i64 0, .int .i64 0, .int .i64 0] 63)) := ((Fr.refl _ _).alloc _).alloc _
  have hb : AcB ((w.alloc (.cells #[.string ⟨#[]⟩, .int .i64 0, .int .i64 0, .int .i64 0] 63)).alloc (.cells #[.string ⟨#[]⟩, .int .i64 0, .int .i64 0, .int .i64 0] 63)) (w.heap.size + 1) ⟨[], 0, 0, 0⟩ := by
    have h1 := Blk.new (w.alloc (.cells #[.string ⟨#[]⟩, .int .i64 0, .int .i64 0, .int .i64 0] 63)) 63 #[.string ⟨#[]⟩, .int .i64 0, .int .i64 0, .int .i64 0]
    rw [World.size_alloc] at h1
    exact h1
  have hr : AcB ((w.alloc (.cells #[.string ⟨#[]⟩, .int .i64 0, .int .i64 0, .int .i64 0] 63)).alloc (.cells #[.string ⟨#[]⟩, .int .i64 0, .int .i64 0, .int .i64 0] 63)) w.heap.size ⟨[], 0, 0, 0⟩ :=
    Blk.fr (Blk.new w 63 #[.string ⟨#[]⟩, .int .i64 0, .int .i64 0, .int .i64 0]) ((Fr.refl No _).alloc _) (fun h => h)
  refine (HD.out _ _).mono ?_
  generalize ((w.alloc (.cells #[.string ⟨#[]⟩, .int .i64 0, .int .i64 0, .int .i64 0] 63)).alloc (.cells #[.string ⟨#[]⟩, .int .i64 0, .int .i64 0, .int .i64 0] 63)) = w1 at *
  rintro e w2 ⟨rfl, rfl⟩
  obtain ⟨c0, c1, c2, c3⟩ := acb_cells hb
  obtain ⟨d0, d1, d2, d3⟩ := acb_cells hr
  have f0 := hr.frozen 0
  have f1 := hr.frozen 1
  have f2 := hr.frozen 2
  have f3 := hr.frozen 3
  have hrl := hr.lt
  have HF := Lib.hid hf
  clear hb hr hf
  go_wp2
  have HW : Fr (At1 w.heap.size) w2 ((((w2.setCell ⟨w.heap.size, 0, none⟩ (.string ⟨#[]⟩)).setCell ⟨w.heap.size, 1, none⟩ (.int .i64 0)).setCell ⟨w.heap.size, 2, none⟩ (.int .i64 0)).setCell ⟨w.heap.size, 3, none⟩ (.int .i64 0)) :=
    Fr.setCell (S := At1 w.heap.size) (p := ⟨w.heap.size, 3, none⟩) (Fr.setCell (S := At1 w.heap.size) (p := ⟨w.heap.size, 2, none⟩) (Fr.setCell (S := At1 w.heap.size) (p := ⟨w.heap.size, 1, none⟩) (Fr.setCell (S := At1 w.heap.size) (p := ⟨w.heap.size, 0, none⟩) (Fr.refl _ _) (fun _ => rfl) _) (fun _ => rfl) _) (fun _ => rfl) _) (fun _ => rfl) _
  refine bodyPost_ret (v := .tuple #[.agg #[.string ⟨#[]⟩, .int .i64 0, .int .i64 0, .int .i64 0], .int .i64 1]) (by simp [results, Tryz.results115, go_sem, d0, d1, d2, d3, f0, f1, f2, f3]) rfl ?_
  refine ⟨rfl, HF.out.trans' HW fun i hi hlt => ?_⟩
  have : i = w.heap.size := hi
  omega
end Go.Proofs.YtlanhclgbkhdlaaGreat

namespace Go.Proofs.YtlanhclgbkhdlaaGreat
open Go.RowKit Go.My Go.Maps
set_option linter.unusedSimpArgs false
set_option linter.unusedVariables false

/-- what holds of a chart's accounts -/
structure Inv (S : List Ac) : Prop where
  ok : OkS S
  nm : NmS S
  len : S.length ≤ 12
  rise : Rise S

theorem mem_putA {a b : Ac} {S : List Ac} (h : b ∈ putA a S) : b = a ∨ b ∈ S := by
  unfold putA at h
  rcases (mem_insA a b _).1 h with h | h
  · exact .inl h
  · exact .inr (List.mem_filter.1 h).1
theorem Inv.put {S : List Ac} (h : Inv S) (a : Ac) (ho : OkA a) (hn : a.name.length ≤ 8) (hl : (getA S a.name).isSome ∨ S.length < 12) : Inv (putA a S) :=
  ⟨fun b hb => by
    rcases mem_putA hb with rfl | hb
    · exact ho
    · exact h.ok b hb, fun b hb => by
    rcases mem_putA hb with rfl | hb
    · exact hn
    · exact h.nm b hb, by
    rw [length_put a S h.rise]
    have := h.len
    split
    · exact this
    · rename_i hne
      rcases hl with hl | hl
      · exact absurd hl hne
      · omega, rise_put a S h.rise⟩
theorem Inv.nil : Inv [] := ⟨fun _ h => (nomatch h), fun _ h => (nomatch h), Nat.zero_le _, List.Pairwise.nil⟩

theorem inv_open {S : List Ac} (h : Inv S) (nm : List UInt8) (lim : Int) (hl : In64 lim) : Inv (openS S nm lim) := by
  unfold openS
  by_cases h0 : openE S nm lim = 0
  · rw [if_pos h0]
    unfold openE at h0
    split at h0
    · cases h0
    · rename_i h1
      split at h0
      · cases h0
      · split at h0
        · cases h0
        · rename_i h3
          have hlim : ¬ lim < 0 := fun h => h1 (.inr h)
          have hnb : nameB nm = true := by
            cases hb : nameB nm
            · exact absurd (.inl hb) h1
            · rfl
          unfold In64 at hl
          refine h.put ⟨nm, 0, 0, lim⟩ ⟨by unfold In64; simp, by simp only; omega, by simp only; omega⟩ ?_ (.inr (by omega))
          unfold nameB at hnb
          simp only [Bool.and_eq_true, decide_eq_true_eq] at hnb
          simp only
          omega
  · rw [if_neg h0]
    exact h
theorem inv_act {S : List Ac} (h : Inv S) (f : Ac → Int) (g : Ac → Ac) (nm : List UInt8) (hg : ∀ a, OkA a → f a = 0 → OkA (g a)) (hn : ∀ a, (g a).name = a.name) : Inv (actS f g S nm) := by
  unfold actS
  cases hq : getA S nm with
  | none => exact h
  | some a =>
    simp only
    obtain ⟨hm, hnm⟩ := getA_some hq
    by_cases h0 : f a = 0
    · rw [if_pos h0]
      refine h.put _ (hg a (h.ok a hm) h0) (by rw [hn]; exact h.nm a hm) (.inl ?_)
      rw [hn, hnm, hq]
      rfl
    · rw [if_neg h0]
      exact h
theorem ok_give (x : Int) (a : Ac) (h : OkA a) (h0 : giveE a x = 0) : OkA (giveA a x) := by
  unfold giveA
  rw [if_pos h0]
  unfold giveE at h0
  split at h0
  · rename_i hin
    exact ⟨hin, h.2⟩
  · cases h0
theorem ok_aside (x : Int) (a : Ac) (h : OkA a) (h0 : asideE a x = 0) : OkA (asideA a x) := by
  unfold asideA
  rw [if_pos h0]
  unfold asideE at h0
  split at h0
  · rename_i hin
    split at h0
    · cases h0
    · split at h0
      · cases h0
      · rename_i hneg
        unfold In64 at hin
        exact ⟨h.1, by simp only; omega, h.2.2⟩
  · cases h0
end Go.Proofs.YtlanhclgbkhdlaaGreat

namespace Go.Proofs.YtlanhclgbkhdlaaGreat
open Go.RowKit Go.My Go.Maps
set_option linter.unusedSimpArgs false
set_option linter.unusedVariables false
attribute [local go_sem ↓] Go.wp_at_zero Go.wp_at_succ

instance : DecidableEq Ac := fun a b =>
  if h : a.name = b.name ∧ a.hv = b.hv ∧ a.st = b.st ∧ a.lim = b.lim then isTrue (Ac.ext_ h.1 h.2.1 h.2.2.1 h.2.2.2) else isFalse fun e => h (by subst e; exact ⟨rfl, rfl, rfl, rfl⟩)

theorem acs_get (S : List Ac) : ∀ (k i : Nat) (hk : k < S.length), i < 4 → (acs S)[k * 4 + i]? = (acC S[k])[i]? := by
  induction S with
  | nil => intro k i hk; simp at hk
  | cons a S ih =>
    intro k i hk hi
    show (acC a ++ acs S)[k * 4 + i]? = _
    cases k with
    | zero => rw [List.getElem?_append_left (by simp [acC]; omega)]; simp
    | succ k =>
      rw [List.getElem?_append_right (by simp [acC]; omega)]
      have := ih k i (by simp at hk; omega) hi
      simp only [List.getElem_cons_succ]
      rw [← this]
      congr 1
      simp [acC]
      omega
theorem acs_at {w : World} {F : Nat → Prop} {A : Option Addr} {S : List Ac} (h : Rd w F 4 A S.length (acs S)) (k : Nat) (hk : k < S.length) :
    ∃ ad, A = some ad ∧ F ad.block ∧ w.cell? (ad.add (k * 4)) = some (.string ⟨S[k].name.toArray⟩) ∧ w.cell? ⟨(ad.add (k * 4)).block, (ad.add (k * 4)).off + 1, none⟩ = some (.int .i64 S[k].hv) ∧
      w.cell? ⟨(ad.add (k * 4)).block, (ad.add (k * 4)).off + 2, none⟩ = some (.int .i64 S[k].st) ∧ w.cell? ⟨(ad.add (k * 4)).block, (ad.add (k * 4)).off + 3, none⟩ = some (.int .i64 S[k].lim) := by
  obtain ⟨ad, rfl, hF, hc⟩ := h.2 (by omega)
  refine ⟨ad, rfl, hF, hc (k * 4) _ (by have := acs_get S k 0 hk (by omega); rw [Nat.add_zero] at this; rw [this]; rfl), ?_, ?_, ?_⟩
  · rw [← add_lits ad (k * 4) 1 (by omega)]
    exact hc _ _ (by rw [acs_get S k 1 hk (by omega)]; rfl)
  · rw [← add_lits ad (k * 4) 2 (by omega)]
    exact hc _ _ (by rw [acs_get S k 2 hk (by omega)]; rfl)
  · rw [← add_lits ad (k * 4) 3 (by omega)]
    exact hc _ _ (by rw [acs_get S k 3 hk (by omega)]; rfl)

theorem neq_ac (a b : Ac) (W : World) (h : a ≠ b) : (binOp .neq 63 (.agg #[.string ⟨a.name.toArray⟩, .int .i64 a.hv, .int .i64 a.st, .int .i64 a.lim]) (.agg #[.string ⟨b.name.toArray⟩, .int .i64 b.hv, .int .i64 b.st, .int .i64 b.lim])).run Tryz.prog W = .ok (.bool true) W := by
  have key : a.name = b.name → a.hv = b.hv → a.st = b.st → ¬ a.lim = b.lim := fun h1 h2 h3 h4 => h (Ac.ext_ h1 h2 h3 h4)
  simp [go_sem]
  exact key
def SameARel (S T : List Ac) (w : World) (i : Value) (wr : World) : Prop :=
  ∃ k j : Nat, k ≤ S.length ∧ i = .int .i64 k ∧ S.take k = T.take k ∧ wr = w.drewN j

end Go.Proofs.YtlanhclgbkhdlaaGreat

namespace Go.Proofs.YtlanhclgbkhdlaaGreat
open Go.RowKit Go.My Go.Maps
set_option linter.unusedSimpArgs false
set_option linter.unusedVariables false
attribute [local go_sem ↓] Go.wp_at_zero Go.wp_at_succ

def RNmRel (s : ByteArray) (iv : Value) : Prop := ∃ k : Nat, k ≤ s.size ∧ iv = .int .i64 k ∧ (s.data.toList.take k).all okc = true
theorem before_take : ∀ (a b : List UInt8) (k : Nat), a.take k = b.take k → k ≤ a.length → k ≤ b.length → bytesBefore a b = bytesBefore (a.drop k) (b.drop k)
  | a, b, 0, _, _, _ => rfl
  | [], _, k + 1, _, h, _ => by simp at h
  | _, [], k + 1, _, _, h => by simp at h
  | x :: a, y :: b, k + 1, h, ha, hb => by
    simp only [List.take_succ_cons, List.cons.injEq] at h
    obtain ⟨rfl, h⟩ := h
    rw [List.drop_succ_cons, List.drop_succ_cons, ← before_take a b k h (by simpa using ha) (by simpa using hb)]
    simp [bytesBefore]
theorem before_cons (x y : UInt8) (a b : List UInt8) (h : x ≠ y) : bytesBefore (x :: a) (y :: b) = decide ((x.toNat : Int) < (y.toNat : Int)) := by
  simp only [bytesBefore]
  rw [beq_eq_false_iff_ne.2 h]
  simp [UInt8.lt_iff_toNat_lt]
theorem before_end (a b : List UInt8) (h : a = [] ∨ b = []) : bytesBefore a b = decide ((a.length : Int) < (b.length : Int)) := by
  rcases h with rfl | rfl
  · cases b <;> simp [bytesBefore] <;> omega
  · cases a <;> simp [bytesBefore] <;> omega

def AhRel (s t : ByteArray) (w : World) (iv : Value) (wr : World) : Prop := ∃ k j : Nat, k ≤ s.size ∧ k ≤ t.size ∧ iv = .int .i64 k ∧ s.data.toList.take k = t.data.toList.take k ∧ wr = w.drewN j
end Go.Proofs.YtlanhclgbkhdlaaGreat

namespace Go.Proofs.YtlanhclgbkhdlaaGreat
open Go.RowKit Go.My
set_option linter.unusedSimpArgs false
set_option linter.unusedVariables false

/-- a number of two halves -/
def wideV (x : Int) : Value := .agg #[.int .i64 (wrap64 (x / 18446744073709551616)), .int .u64 (x % 18446744073709551616)]

theorem plus_math (x y : Int) : ∃ hx hy lx ly, wideV x = .agg #[.int .i64 hx, .int .u64 lx] ∧ wideV y = .agg #[.int .i64 hy, .int .u64 ly] ∧ 0 ≤ lx ∧ lx < 18446744073709551616 ∧ 0 ≤ ly ∧ ly < 18446744073709551616 ∧
    wideV (x + y) = .agg #[.int .i64 (if IntKind.u64.wrap (lx + ly) < lx then wrap64 (wrap64 (hx + hy) + 1) else wrap64 (hx + hy)), .int .u64 (IntKind.u64.wrap (lx + ly))] := by
  refine ⟨_, _, _, _, rfl, rfl, by omega, by omega, by omega, by omega, ?_⟩
  unfold wideV
  rw [IntKind.wrap_u64]
  have h1 := wrap64_eq (x / 18446744073709551616)
  have h2 := wrap64_eq (y / 18446744073709551616)
  have h3 := wrap64_eq ((x + y) / 18446744073709551616)
  have h4 := wrap64_eq (wrap64 (x / 18446744073709551616) + wrap64 (y / 18446744073709551616))
  have h5 := wrap64_eq (wrap64 (wrap64 (x / 18446744073709551616) + wrap64 (y / 18446744073709551616)) + 1)
  have e1 : (x % 18446744073709551616 + y % 18446744073709551616) % 18446744073709551616 = (x + y) % 18446744073709551616 := by omega
  rw [e1]
  congr 3
  congr 1
  split <;> omega

theorem minus_math (x : Int) : ∃ hx lx, wideV x = .agg #[.int .i64 hx, .int .u64 lx] ∧ 0 ≤ lx ∧ lx < 18446744073709551616 ∧
    wideV (-x) = .agg #[.int .i64 (if lx = 0 then wrap64 (-hx) else wrap64 (wrap64 (-hx) - 1)), .int .u64 (IntKind.u64.wrap (-lx))] := by
  refine ⟨_, _, rfl, by omega, by omega, ?_⟩
  unfold wideV
  rw [IntKind.wrap_u64]
  have h1 := wrap64_eq (x / 18446744073709551616)
  have h3 := wrap64_eq ((-x) / 18446744073709551616)
  have h4 := wrap64_eq (-wrap64 (x / 18446744073709551616))
  have h5 := wrap64_eq (wrap64 (-wrap64 (x / 18446744073709551616)) - 1)
  have e1 : (-(x % 18446744073709551616)) % 18446744073709551616 = (-x) % 18446744073709551616 := by omega
  rw [e1]
  congr 3
  congr 1
  split <;> omega
theorem sum_math (x : Int) (h : -170141183460469231731687303715884105728 ≤ x ∧ x < 170141183460469231731687303715884105728) : ∃ hx lx hy, wideV x = .agg #[.int .i64 hx, .int .u64 lx] ∧ In64 (wrap64 lx) ∧ wideV (wrap64 lx) = .agg #[.int .i64 hy, .int .u64 lx] ∧
    two64 x = if hx = hy then .tuple #[.int .i64 (wrap64 lx), .int .i64 0] else .tuple #[.int .i64 0, .int .i64 2] := by
  have h1 := wrap64_eq (x / 18446744073709551616)
  have h2 := wrap64_eq (x % 18446744073709551616)
  have h3 := wrap64_eq (wrap64 (x % 18446744073709551616) / 18446744073709551616)
  have e1 : wrap64 (x % 18446744073709551616) % 18446744073709551616 = x % 18446744073709551616 := by omega
  refine ⟨_, _, wrap64 (wrap64 (x % 18446744073709551616) / 18446744073709551616), rfl, by unfold In64; omega, ?_, ?_⟩
  · unfold wideV
    rw [e1]
  · by_cases hin : In64 x
    · rw [two64_in hin]
      unfold In64 at hin
      have e2 : wrap64 (x % 18446744073709551616) = x := by omega
      rw [e2, if_pos rfl]
    · rw [two64_out hin]
      unfold In64 at hin
      rw [if_neg (by omega)]
end Go.Proofs.YtlanhclgbkhdlaaGreat

namespace Go.Proofs.YtlanhclgbkhdlaaGreat
open Go.RowKit Go.My
set_option linter.unusedSimpArgs false
set_option linter.unusedVariables false

/-- the cells of a number of two halves -/
def wideC (x : Int) : Array Value := #[.int .i64 (wrap64 (x / 18446744073709551616)), .int .u64 (x % 18446744073709551616)]
theorem wideC_zero : wideC 0 = #[.int .i64 0, .int .u64 0] := by unfold wideC; simp [wrap64]
end Go.Proofs.YtlanhclgbkhdlaaGreat

namespace Go.Proofs.YtlanhclgbkhdlaaGreat
open Go.RowKit Go.My Go.Maps
set_option linter.unusedSimpArgs false
set_option linter.unusedVariables false
attribute [local go_sem ↓] Go.wp_at_zero Go.wp_at_succ

/-! ### lists -/

theorem key_before (a b : Ac) : a.key.before b.key = bytesBefore a.name b.name := rfl
/-- an account that is there is put where it stands -/
theorem put_set : ∀ (S : List Ac) (k : Nat) (hk : k < S.length) (b : Ac), Rise S → S[k].name = b.name → putA b S = S.set k b
  | c :: r, 0, _, b, hr, hn => by
    obtain ⟨h1, h2⟩ := List.pairwise_cons.1 hr
    simp only [List.getElem_cons_zero] at hn
    have hkey : b.key = c.key := by unfold Ac.key; rw [hn]
    unfold putA
    have hf : (c :: r).filter (fun d => !d.key.sameKey b.key) = r := by
      rw [List.filter_cons, if_neg (by
        show ¬ (!(c.name == b.name)) = true
        rw [hn]; simp), List.filter_eq_self.2]
      intro d hd
      show (!(d.name == b.name)) = true
      have := h1 d hd
      rw [← hn]
      cases hq : d.name == c.name
      · rfl
      · rw [key_before, beq_iff_eq.1 hq, WideAt.bytes_irrefl] at this
        cases this
    rw [hf]
    cases r with
    | nil => rfl
    | cons d t =>
      have := h1 d List.mem_cons_self
      unfold insA
      rw [if_pos (by rw [hkey]; exact this)]
      rfl
  | c :: r, k + 1, hk, b, hr, hn => by
    obtain ⟨h1, h2⟩ := List.pairwise_cons.1 hr
    simp only [List.getElem_cons_succ] at hn
    have hk' : k < r.length := by simpa using hk
    have hcb := h1 _ (List.getElem_mem hk')
    have hcb' : bytesBefore c.name b.name = true := by rw [← hn]; exact hcb
    have hne : c.name ≠ b.name := fun h => by rw [h, WideAt.bytes_irrefl] at hcb'; cases hcb'
    have hnb : bytesBefore b.name c.name = false := by
      cases hq : bytesBefore b.name c.name
      · rfl
      · have := WideShapes.bytes_trans _ _ _ hcb' hq
        rw [WideAt.bytes_irrefl] at this
        cases this
    have ih := put_set r k hk' b h2 hn
    unfold putA at ih ⊢
    rw [List.filter_cons, if_pos (by
      show (!(c.name == b.name)) = true
      simp [hne])]
    unfold insA
    rw [if_neg (by rw [key_before, hnb]; decide), ih]
    rfl
/-- where a new account is put -/
theorem ins_at : ∀ (S : List Ac) (a : Ac) (k : Nat), k ≤ S.length → Rise S → (∀ i (h : i < S.length), k ≤ i → bytesBefore a.name S[i].name = true) → (∀ (h : 0 < k) (h2 : k - 1 < S.length), bytesBefore a.name S[k - 1].name = false) →
    insA a S = S.take k ++ a :: S.drop k
  | [], a, k, hk, _, _, _ => by
    have : k = 0 := by simpa using hk
    subst this
    rfl
  | c :: r, a, 0, _, hr, h1, _ => by
    have := h1 0 (by simp) (Nat.le_refl _)
    unfold insA
    rw [if_pos (by rw [key_before]; exact this)]
    rfl
  | c :: r, a, k + 1, hk, hr, h1, h2 => by
    obtain ⟨g1, g2⟩ := List.pairwise_cons.1 hr
    have hk' : k ≤ r.length := by simpa using hk
    have hc : bytesBefore a.name c.name = false := by
      cases k with
      | zero => exact h2 (by omega) (by simp)
      | succ j =>
        cases hq : bytesBefore a.name c.name
        · rfl
        · have h3 := h2 (by omega) (by simp; omega)
          have hj : j < r.length := by omega
          have h4 : bytesBefore c.name r[j].name = true := g1 _ (List.getElem_mem hj)
          have h5 := WideShapes.bytes_trans _ _ _ hq h4
          simp only [Nat.add_sub_cancel, List.getElem_cons_succ] at h3
          rw [h5] at h3
          cases h3
    have ih := ins_at r a k hk' g2 (fun i h hki => by have := h1 (i + 1) (by simp; omega) (by omega); simpa using this) (fun h h3 => by
      have := h2 (by omega) (by simp; omega)
      cases k with
      | zero => omega
      | succ j => simpa using this)
    unfold insA
    rw [if_neg (by rw [key_before, hc]; decide), ih]
    rfl
theorem put_ins {S : List Ac} {a : Ac} (h : getA S a.name = none) : putA a S = insA a S := by
  unfold putA
  congr 1
  refine List.filter_eq_self.2 fun b hb => ?_
  show (!(b.name == a.name)) = true
  have := getA_none h b hb
  simp [this]

/-- a cell of an account is another one -/
theorem acs_set : ∀ (S : List Ac) (k j : Nat) (hk : k < S.length) (b : Ac) (u : Value), j < 4 → acC b = (acC S[k]).set j u → (acs S).set (k * 4 + j) u = acs (S.set k b)
  | c :: r, 0, j, _, b, u, hj, h => by
    show (acC c ++ acs r).set (0 * 4 + j) u = acC b ++ acs r
    rw [List.set_append_left _ _ (by simp [acC]; omega), Nat.zero_mul, Nat.zero_add]
    simp only [List.getElem_cons_zero] at h
    rw [h]
  | c :: r, k + 1, j, hk, b, u, hj, h => by
    show (acC c ++ acs r).set ((k + 1) * 4 + j) u = acC c ++ acs (r.set k b)
    rw [List.set_append_right _ _ (by simp [acC]; omega)]
    congr 1
    rw [← acs_set r k j (by simpa using hk) b u hj (by simpa using h)]
    congr 1
    simp [acC]
    omega

/-! ### memory -/

theorem own_set {w : World} {e : TypeId} {size n g c : Nat} {xs : List Value} (h : Own w e size (.slice (some ⟨g, 0, none⟩) n c) n xs) (j : Nat) (hj : j < n * size) (hn : 0 < n) (u : Value) :
    Own (w.setCell ⟨g, j, none⟩ u) e size (.slice (some ⟨g, 0, none⟩) n c) n (xs.set j u) ∧ (∃ y, w.cell? ⟨g, j, none⟩ = some y) ∧ w.frozen? ⟨g, j, none⟩ = false := by
  have hl := h.1
  obtain ⟨g', c', cur, hv, hg, h1, h2, h3, h4⟩ := h.formPos hn
  injection hv with hA _ hc
  injection hA with hA
  injection hA with hg'
  subst hg' hc
  have hcur : j < cur.size := by
    have : n * size ≤ c * size := Nat.mul_le_mul_right _ h1
    omega
  refine ⟨⟨by simpa using hl, .inr ⟨g, c, cur.setIfInBounds j u, rfl, hg.set_ j u, h1, h2, by simpa using h3, ?_⟩⟩, ⟨cur[j], by rw [hg.cell]; simp [hcur]⟩, hg.frozen j⟩
  rw [← h4]
  simp only [Array.toList_setIfInBounds]
  rw [List.take_set]

section
variable {w w' : World} {q : Nat} {S : List Ac}
end

/-! ### Name, Ahead, At, Free -/

end Go.Proofs.YtlanhclgbkhdlaaGreat

namespace Go.Proofs.YtlanhclgbkhdlaaGreat
open Go.RowKit Go.My Go.Maps
set_option linter.unusedSimpArgs false
set_option linter.unusedVariables false
attribute [local go_sem ↓] Go.wp_at_zero Go.wp_at_succ

/-- where an account stands -/
def AtP (S : List Ac) (nm : List UInt8) (z : Int) : Prop := (getA S nm = none ∧ z = -1) ∨ ∃ (k : Nat) (h : k < S.length), z = k ∧ S[k].name = nm ∧ getA S nm = some S[k]
def AtRel (S : List Ac) (nm : List UInt8) (iv : Value) : Prop := ∃ k : Nat, k ≤ S.length ∧ iv = .int .i64 k ∧ ∀ a ∈ S.take k, a.name ≠ nm
def AtRet (S : List Ac) (nm : List UInt8) (w : World) (e : Ending) (w' : World) : Prop := ∃ z, e = .returned (.int .i64 z) ∧ AtP S nm z ∧ w = w'
theorem find_take (S : List Ac) (nm : List UInt8) (k : Nat) (hk : k < S.length) (h : ∀ a ∈ S.take k, a.name ≠ nm) (he : S[k].name = nm) : getA S nm = some S[k] := by
  unfold getA
  rw [List.find?_eq_some_iff_append]
  refine ⟨by simp [he], S.take k, S.drop (k + 1), by simp, fun a ha => by simp [h a ha]⟩
end Go.Proofs.YtlanhclgbkhdlaaGreat
