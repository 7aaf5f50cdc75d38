/- Contracts of package chart: Aside's and Get's deeds. -/
import Derived.Test.YtjbeaoabhhaiiaaGreatChart4
namespace Go.Proofs.YtjbeaoabhhaiiaaGreat
open Go.RowKit Go.My Go.Maps
set_option linter.unusedSimpArgs false
set_option linter.unusedVariables false
attribute [local go_sem ↓] Go.wp_at_zero Go.wp_at_succ

set_option maxRecDepth 100000 in
set_option maxHeartbeats 2000000 in
theorem aside1_any (q xb : Nat) (a : Ac) (x : Int) (w : World) (h : AcB w q a) (hx : XB w xb x) (hne : q ≠ xb) (ha : OkA a) (hxi : In64 x) :
    Calls Tryz.prog 161 #[.pointer (some ⟨q, 0, none⟩), .pointer (some ⟨xb, 0, none⟩)] w (DeedRet q (asideE a x) (asideA a x) w) := by
  have HL : Hid (∀ W : World, Calls Tryz.prog 162 #[.int .i64 a.st, .int .i64 x] W fun e w' => e = .returned (two64 (a.st + x)) ∧ w' = W) := fun W => (add_any a.st x W (by have := ha.2.1; unfold In64; omega) hxi).mono fun _ _ h => ⟨h.1, h.2.symm⟩
  have HCG : Hid (∀ W : World, 0 < x → Calls Tryz.prog 163 #[.agg #[.string ⟨a.name.toArray⟩, .int .i64 a.hv, .int .i64 a.st, .int .i64 a.lim], .int .i64 x] W fun e w' => e = .returned (.bool (freeB a x)) ∧ Below W.heap.size W w') := fun W h0 =>
    cangive_any a x W ha ⟨h0, by unfold In64 at hxi; omega⟩
  have HA := Lib.hid h
  have HX := Lib.hid hx
  have hql := h.lt
  have hxl := hx.lt
  have HE : Hid (asideE a x = (if In64 (a.st + x) then (if 0 < x ∧ freeB a x = false then 9 else if a.st + x < 0 then 13 else 0) else 2) ∧ asideA a x = if asideE a x = 0 then { a with st := a.st + x } else a) := ⟨rfl, rfl⟩
  generalize asideE a x = ge at *
  generalize asideA a x = ga at *
  generalize freeB a x = fb at *
  obtain ⟨nm, hv, st, lim⟩ := a
  simp only at *
  obtain ⟨c0, c1, c2, c3⟩ := acb_cells h
  have d0 := hx.cell 0
  simp only [List.getElem?_toArray, List.getElem?_cons_zero] at d0
  have HF : Hid (∀ W, Fr No w W → AcB W q ⟨nm, hv, st, lim⟩ ∧ (W.cell? ⟨q, 0, none⟩ = some (.string ⟨nm.toArray⟩) ∧ W.cell? ⟨q, 1, none⟩ = some (.int .i64 hv) ∧ W.cell? ⟨q, 2, none⟩ = some (.int .i64 st) ∧ W.cell? ⟨q, 3, none⟩ = some (.int .i64 lim) ∧ W.cell? ⟨xb, 0, none⟩ = some (.int .i64 x))) := fun W hW => by
    have hA : AcB W q ⟨nm, hv, st, lim⟩ := Blk.fr h hW (fun h => h)
    have hB : XB W xb x := Blk.fr hx hW (fun h => h)
    obtain ⟨e0, e1, e2, e3⟩ := acb_cells hA
    exact ⟨hA, e0, e1, e2, e3, hB.cell 0⟩
  have HEND : Hid (∀ W, Fr No w W → DeedRet q 0 ⟨nm, hv, st + x, lim⟩ w (.returned (.int .i64 0)) (W.setCell ⟨q, 2, none⟩ (.int .i64 (st + x)))) := fun W hW => by
    have hA : AcB W q ⟨nm, hv, st, lim⟩ := Blk.fr h hW (fun h => h)
    exact ⟨rfl, hA.set_ 2 (.int .i64 (st + x)), Fr.setCell (S := At1 q) (p := ⟨q, 2, none⟩) (hW.mono fun _ _ h => False.elim h) (fun _ => rfl) _⟩
  have HSTAY : Hid (∀ n W, Fr No w W → DeedRet q n ⟨nm, hv, st, lim⟩ w (.returned (.int .i64 n)) W) := fun n W hW => ⟨rfl, Blk.fr h hW (fun h => h), hW.mono fun _ _ h => False.elim h⟩
  unfold In64 at hxi
  clear h hx ha HA HX
  by_cases hin : In64 (st + x)
  · rw [two64_in hin] at HL
    rw [if_pos hin] at HE
    unfold In64 at hin
    go_enter Tryz.func161, Tryz.ntmps161
    go_wp2_with fail
    go_quiet ((go_at_call 162; exact Calls.quiet_of_same (HL.out _)))
    by_cases hpos : 0 < x
    · have HP := Lib.hid hpos
      go_upto_region 4 with (fail)
      have hw1 : Fr No w (w.drewN nq).drew := ((Fr.refl _ _).drewN nq).drew
      cases fb
      · have HEE : Hid (ge = 9 ∧ ga = ⟨nm, hv, st, lim⟩) := by
          have h1 := HE.out
          rw [if_pos ⟨hpos, rfl⟩] at h1
          exact ⟨h1.1, by rw [h1.2, h1.1, if_neg (by decide)]⟩
        go_region_held3 (fun W => W.cell? ⟨q, 0, none⟩ = some (.string ⟨nm.toArray⟩) ∧ W.cell? ⟨q, 1, none⟩ = some (.int .i64 hv) ∧ W.cell? ⟨q, 2, none⟩ = some (.int .i64 st) ∧ W.cell? ⟨q, 3, none⟩ = some (.int .i64 lim) ∧ W.cell? ⟨xb, 0, none⟩ = some (.int .i64 x))
          (first | exact (HF.out _ hw1).2 | exact (HF.out _ hf3).2)
          (first | (go_at_call 163; refine (HCG.out _ HP.out).mono ?_; rintro e w3 ⟨rfl, hb3⟩; have hf3 := hw1.trans (Fr.of_below hb3 _)))
        go_wp2
        go_ret
        obtain ⟨rfl, rfl⟩ := HEE.out
        exact HSTAY.out 9 _ hf3
      · by_cases hneg : st + x < 0
        · have HEE : Hid (ge = 13 ∧ ga = ⟨nm, hv, st, lim⟩) := by
            have h1 := HE.out
            rw [if_neg (by simp), if_pos hneg] at h1
            exact ⟨h1.1, by rw [h1.2, h1.1, if_neg (by decide)]⟩
          have hdn : decide (st + x < 0) = true := decide_eq_true hneg
          go_region_held3 (fun W => W.cell? ⟨q, 0, none⟩ = some (.string ⟨nm.toArray⟩) ∧ W.cell? ⟨q, 1, none⟩ = some (.int .i64 hv) ∧ W.cell? ⟨q, 2, none⟩ = some (.int .i64 st) ∧ W.cell? ⟨q, 3, none⟩ = some (.int .i64 lim) ∧ W.cell? ⟨xb, 0, none⟩ = some (.int .i64 x))
            (first | exact (HF.out _ hw1).2 | exact (HF.out _ hf3).2)
            (first | (go_at_call 163; refine (HCG.out _ HP.out).mono ?_; rintro e w3 ⟨rfl, hb3⟩; have hf3 := hw1.trans (Fr.of_below hb3 _)))
          have hf4 := (HF.out _ hf3).2
          go_wp2
          go_ret
          obtain ⟨rfl, rfl⟩ := HEE.out
          exact HSTAY.out 13 _ hf3
        · have HEE : Hid (ge = 0 ∧ ga = ⟨nm, hv, st + x, lim⟩) := by
            have h1 := HE.out
            rw [if_neg (by simp), if_neg hneg] at h1
            exact ⟨h1.1, by rw [h1.2, h1.1, if_pos rfl]⟩
          have hdn : decide (st + x < 0) = false := decide_eq_false hneg
          go_region_held3 (fun W => W.cell? ⟨q, 0, none⟩ = some (.string ⟨nm.toArray⟩) ∧ W.cell? ⟨q, 1, none⟩ = some (.int .i64 hv) ∧ W.cell? ⟨q, 2, none⟩ = some (.int .i64 st) ∧ W.cell? ⟨q, 3, none⟩ = some (.int .i64 lim) ∧ W.cell? ⟨xb, 0, none⟩ = some (.int .i64 x))
            (first | exact (HF.out _ hw1).2 | exact (HF.out _ hf3).2)
            (first | (go_at_call 163; refine (HCG.out _ HP.out).mono ?_; rintro e w3 ⟨rfl, hb3⟩; have hf3 := hw1.trans (Fr.of_below hb3 _)))
          have c2' := (HF.out _ hf3).2.2.2.1
          have f2' := (HF.out _ hf3).1.frozen 2
          go_wp2
          go_ret
          obtain ⟨rfl, rfl⟩ := HEE.out
          exact HEND.out _ hf3
    · have hd : decide (0 < x) = false := decide_eq_false hpos
      have f2 := (HF.out _ (Fr.refl _ _)).1.frozen 2
      by_cases hneg : st + x < 0
      · have HEE : Hid (ge = 13 ∧ ga = ⟨nm, hv, st, lim⟩) := by
          have h1 := HE.out
          rw [if_neg (fun h => hpos h.1), if_pos hneg] at h1
          exact ⟨h1.1, by rw [h1.2, h1.1, if_neg (by decide)]⟩
        have hdn : decide (st + x < 0) = true := decide_eq_true hneg
        go_upto_region 4 with (fail)
        go_quiet (fail)
        go_wp2
        go_ret
        obtain ⟨rfl, rfl⟩ := HEE.out
        first | exact HSTAY.out 13 _ (((Fr.refl _ _).drewN _).drewN _) | exact HSTAY.out 13 _ ((Fr.refl _ _).drewN _)
      · have HEE : Hid (ge = 0 ∧ ga = ⟨nm, hv, st + x, lim⟩) := by
          have h1 := HE.out
          rw [if_neg (fun h => hpos h.1), if_neg hneg] at h1
          exact ⟨h1.1, by rw [h1.2, h1.1, if_pos rfl]⟩
        have hdn : decide (st + x < 0) = false := decide_eq_false hneg
        go_upto_region 4 with (fail)
        go_quiet (fail)
        go_wp2
        go_ret
        obtain ⟨rfl, rfl⟩ := HEE.out
        first | exact HEND.out _ (((Fr.refl _ _).drewN _).drewN _) | exact HEND.out _ ((Fr.refl _ _).drewN _)
  · rw [two64_out hin] at HL
    rw [if_neg hin] at HE
    have HEE : Hid (ge = 2 ∧ ga = ⟨nm, hv, st, lim⟩) := ⟨HE.out.1, by rw [HE.out.2, HE.out.1, if_neg (by decide)]⟩
    clear hin
    go_enter Tryz.func161, Tryz.ntmps161
    go_wp2_with fail
    go_quiet ((go_at_call 162; exact Calls.quiet_of_same (HL.out _)))
    go_wp2
    go_ret
    obtain ⟨rfl, rfl⟩ := HEE.out
    exact HSTAY.out 2 _ ((Fr.refl _ _).drewN _)

/-- an account is read -/
theorem get1_any (q gb : Nat) (a a0 : Ac) (w : World) (h : AcB w q a) (hg : AcB w gb a0) (hne : q ≠ gb) :
    Calls Tryz.prog 156 #[.pointer (some ⟨q, 0, none⟩), .pointer (some ⟨gb, 0, none⟩)] w fun e w' => e = .returned (.int .i64 0) ∧ AcB w' q a ∧ AcB w' gb a ∧ Fr (At1 gb) w w' := by
  obtain ⟨nm, hv, st, lim⟩ := a
  obtain ⟨nm0, hv0, st0, lim0⟩ := a0
  have H1 := Lib.hid h
  have H2 := Lib.hid hg
  have hql := h.lt
  have hgl := hg.lt
  obtain ⟨c0, c1, c2, c3⟩ := acb_cells h
  obtain ⟨d0, d1, d2, d3⟩ := acb_cells hg
  have f0 := hg.frozen 0
  have f1 := hg.frozen 1
  have f2 := hg.frozen 2
  have f3 := hg.frozen 3
  clear h hg
  go_enter Tryz.func156, Tryz.ntmps156
  go_wp2
  go_ret
  have hF : Fr (At1 gb) w ((((w.setCell ⟨gb, 0, none⟩ (.string ⟨nm.toArray⟩)).setCell ⟨gb, 1, none⟩ (.int .i64 hv)).setCell ⟨gb, 2, none⟩ (.int .i64 st)).setCell ⟨gb, 3, none⟩ (.int .i64 lim)) :=
    Fr.setCell (S := At1 gb) (p := ⟨gb, 3, none⟩) (Fr.setCell (S := At1 gb) (p := ⟨gb, 2, none⟩) (Fr.setCell (S := At1 gb) (p := ⟨gb, 1, none⟩) (Fr.setCell (S := At1 gb) (p := ⟨gb, 0, none⟩) (Fr.refl _ _) (fun _ => rfl) _) (fun _ => rfl) _) (fun _ => rfl) _) (fun _ => rfl) _
  exact ⟨rfl, Blk.fr H1.out hF hne, (((Blk.set_ H2.out 0 _).set_ 1 _).set_ 2 _).set_ 3 _, hF⟩

/-- what each account of a chart is -/
def OkS (S : List Ac) : Prop := ∀ a ∈ S, OkA a
/-- what Give and Aside answer, and what is there then -/
def actE (f : Ac → Int) (S : List Ac) (nm : List UInt8) : Int := match getA S nm with | none => 6 | some a => f a
def actS (f : Ac → Int) (g : Ac → Ac) (S : List Ac) (nm : List UInt8) : List Ac := match getA S nm with | none => S | some a => if f a = 0 then putA (g a) S else S
def DeedsE (p m : Nat) (n : Int) (S' : List Ac) (w : World) (e : Ending) (w' : World) : Prop := e = .returned (.int .i64 n) ∧ ChS w' p m S' ∧ Fr (At1 m) w w'

theorem k_give (args : Array Value) (W : World) : (callFunc 174 args).run Tryz.prog W = .ok (.enter 174 args) W := by kernel_rfl
theorem k_aside (args : Array Value) (W : World) : (callFunc 161 args).run Tryz.prog W = .ok (.enter 161 args) W := by kernel_rfl
theorem k_get (args : Array Value) (W : World) : (callFunc 156 args).run Tryz.prog W = .ok (.enter 156 args) W := by kernel_rfl

theorem act_of {p m : Nat} {S : List Ac} {nm : List UInt8} {f : Ac → Int} {g : Ac → Ac} {w w' : World} {e : Ending}
    (h : ChRet p m S nm No (fun a n a' _ => n = f a ∧ a' = g a) w e w') : DeedsE p m (actE f S nm) (actS f g S nm) w e w' := by
  unfold DeedsE actE actS
  rcases h with ⟨hg, rfl, hc, hf⟩ | ⟨a, n, a', hg, rfl, hnm, hc, hf, rfl, rfl⟩
  · rw [hg]
    exact ⟨rfl, hc, hf.mono fun _ _ h => False.elim h⟩
  · rw [hg]
    exact ⟨rfl, hc, hf.mono fun _ _ h => h.resolve_right fun h => h⟩

theorem giveA_name (a : Ac) (x : Int) : (giveA a x).name = a.name := by unfold giveA; split <;> rfl
theorem asideA_name (a : Ac) (x : Int) : (asideA a x).name = a.name := by unfold asideA; split <;> rfl

set_option maxRecDepth 100000 in
theorem give_any (p m : Nat) (S : List Ac) (s : ByteArray) (x : Int) (w : World) (h : ChS w p m S) (hs : s.size ≤ maxLen) (hS : S.length ≤ 12) (ho : OkS S) (hx : In64 x) :
    Calls Tryz.prog 159 #[.pointer (some ⟨p, 0, none⟩), .string s, .int .i64 x] w (DeedsE p m (actE (fun a => giveE a x) S s.data.toList) (actS (fun a => giveE a x) (fun a => giveA a x) S s.data.toList) w) := by
  have HD : Hid (∀ W, ChS W p m S → XB W w.heap.size x → Calls Tryz.prog 155 #[.pointer (some ⟨p, 0, none⟩), .string s, .func (.func 174) #[] #[.pointer (some ⟨w.heap.size, 0, none⟩)]] W (ChRet p m S s.data.toList No (fun a n a' _ => n = giveE a x ∧ a' = giveA a x) W)) := fun W hW hxb => by
    refine change_any _ k_give _ p m S s W hW hs hS No _ (fun h => h) (fun h => h) (fun _ h => False.elim h) (fun _ _ _ _ _ h _ => h) ?_
    intro a W' q hga hf hq hqa
    have hxb' : XB W' w.heap.size x := Blk.fr hxb hf (fun h => h)
    have hl := hxb.lt
    refine (give1_any q w.heap.size a x W' hqa hxb' (by omega) (ho a (getA_some hga).1) hx).mono ?_
    rintro e w3 ⟨rfl, h2, h3⟩
    exact ⟨_, _, rfl, giveA_name a x, h2, h3.mono fun _ _ h => .inl h, rfl, rfl⟩
  have HC := Lib.hid h
  clear h hs ho hx hS
  go_enter Tryz.func159, Tryz.ntmps159
  go_wp2_with fail
  have hf : Fr No w (w.alloc (.cells #[.int .i64 x] 2)) := (Fr.refl _ _).alloc _
  refine (HD.out _ (HC.out.no hf) (Blk.new _ _ _)).mono ?_
  intro e w2 h
  obtain ⟨rfl, h2, h3⟩ := act_of h
  have HE : Hid (DeedsE p m (actE (fun a => giveE a x) S s.data.toList) (actS (fun a => giveE a x) (fun a => giveA a x) S s.data.toList) w (.returned (.int .i64 (actE (fun a => giveE a x) S s.data.toList))) w2) := ⟨rfl, h2, (hf.mono fun _ _ h => False.elim h).trans h3⟩
  clear h h2 h3
  go_wp2
  go_ret
  exact HE.out

set_option maxRecDepth 100000 in
theorem aside_any (p m : Nat) (S : List Ac) (s : ByteArray) (x : Int) (w : World) (h : ChS w p m S) (hs : s.size ≤ maxLen) (hS : S.length ≤ 12) (ho : OkS S) (hx : In64 x) :
    Calls Tryz.prog 140 #[.pointer (some ⟨p, 0, none⟩), .string s, .int .i64 x] w (DeedsE p m (actE (fun a => asideE a x) S s.data.toList) (actS (fun a => asideE a x) (fun a => asideA a x) S s.data.toList) w) := by
  have HD : Hid (∀ W, ChS W p m S → XB W w.heap.size x → Calls Tryz.prog 155 #[.pointer (some ⟨p, 0, none⟩), .string s, .func (.func 161) #[] #[.pointer (some ⟨w.heap.size, 0, none⟩)]] W (ChRet p m S s.data.toList No (fun a n a' _ => n = asideE a x ∧ a' = asideA a x) W)) := fun W hW hxb => by
    refine change_any _ k_aside _ p m S s W hW hs hS No _ (fun h => h) (fun h => h) (fun _ h => False.elim h) (fun _ _ _ _ _ h _ => h) ?_
    intro a W' q hga hf hq hqa
    have hxb' : XB W' w.heap.size x := Blk.fr hxb hf (fun h => h)
    have hl := hxb.lt
    refine (aside1_any q w.heap.size a x W' hqa hxb' (by omega) (ho a (getA_some hga).1) hx).mono ?_
    rintro e w3 ⟨rfl, h2, h3⟩
    exact ⟨_, _, rfl, asideA_name a x, h2, h3.mono fun _ _ h => .inl h, rfl, rfl⟩
  have HC := Lib.hid h
  clear h hs ho hx hS
  go_enter Tryz.func140, Tryz.ntmps140
  go_wp2_with fail
  have hf : Fr No w (w.alloc (.cells #[.int .i64 x] 2)) := (Fr.refl _ _).alloc _
  refine (HD.out _ (HC.out.no hf) (Blk.new _ _ _)).mono ?_
  intro e w2 h
  obtain ⟨rfl, h2, h3⟩ := act_of h
  have HE : Hid (DeedsE p m (actE (fun a => asideE a x) S s.data.toList) (actS (fun a => asideE a x) (fun a => asideA a x) S s.data.toList) w (.returned (.int .i64 (actE (fun a => asideE a x) S s.data.toList))) w2) := ⟨rfl, h2, (hf.mono fun _ _ h => False.elim h).trans h3⟩
  clear h h2 h3
  go_wp2
  go_ret
  exact HE.out

/-- what Get answers -/
def getV (S : List Ac) (nm : List UInt8) : Ac := (getA S nm).getD noA
def GotC (p m : Nat) (S : List Ac) (nm : List UInt8) (w : World) (e : Ending) (w' : World) : Prop :=
  e = .returned (.tuple #[(getV S nm).val, .int .i64 (if (getA S nm).isSome then 0 else 6)]) ∧ ChS w' p m S ∧ Fr (At1 m) w w'

theorem putA_self {S : List Ac} {a : Ac} (hr : Rise S) (h : getA S a.name = some a) : putA a S = S := by
  induction S with
  | nil => cases h
  | cons c r ih =>
    obtain ⟨h1, h2⟩ := List.pairwise_cons.1 hr
    have hsame : ∀ b : Ac, b.key.sameKey a.key = (b.name == a.name) := fun _ => rfl
    unfold getA at h
    rw [List.find?_cons] at h
    unfold putA
    rw [List.filter_cons, hsame]
    by_cases hc : c.name = a.name
    · rw [beq_iff_eq.2 hc] at h ⊢
      simp only at h
      injection h with h
      subst h
      have hfil : r.filter (fun b => !b.key.sameKey c.key) = r := by
        rw [List.filter_eq_self]
        intro b hb
        rw [hsame]
        have h3 := h1 b hb
        cases he : b.name == c.name
        · rfl
        · rw [show b.key = c.key by unfold Ac.key; rw [beq_iff_eq.1 he], WideShapes.before_irrefl] at h3
          cases h3
      rw [hfil]
      simp only [Bool.not_true, Bool.false_eq_true, if_false]
      cases r with
      | nil => rfl
      | cons b r =>
        unfold insA
        rw [if_pos (h1 b List.mem_cons_self)]
    · have hcb : (c.name == a.name) = false := by rw [beq_eq_false_iff_ne]; exact hc
      rw [hcb] at h ⊢
      simp only [Bool.not_false, if_true]
      have ham : a ∈ r := List.mem_of_find?_eq_some h
      unfold insA
      rw [if_neg (fun h' => by
        have h3 := WideShapes.before_trans h' (h1 a ham)
        rw [WideShapes.before_irrefl] at h3
        cases h3)]
      have := ih h2 h
      unfold putA at this
      rw [this]

theorem getch_any (b p m : Nat) (S : List Ac) (s : ByteArray) (W : World) (hW : ChS W p m S) (hs : s.size ≤ maxLen) (hS : S.length ≤ 12) (hgb : AcB W b noA) (hm : m < b) (hp : p < b) (hl : b < W.heap.size) :
    Calls Tryz.prog 155 #[.pointer (some ⟨p, 0, none⟩), .string s, .func (.func 156) #[] #[.pointer (some ⟨b, 0, none⟩)]] W (ChRet p m S s.data.toList (At1 b) (fun a n a' W => n = 0 ∧ a' = a ∧ AcB W b a) W) := by
  have h1 : ¬ At1 b p := fun h => by have : p = b := h; omega
  have h2 : ¬ At1 b m := fun h => by have : m = b := h; omega
  have h3 : ∀ i, At1 b i → i < W.heap.size := fun i h => by have : i = b := h; omega
  have h4 : ∀ (a : Ac) (n : Int) (a' : Ac) (W W' : World), (n = 0 ∧ a' = a ∧ AcB W b a) → Fr (At1 m) W W' → (n = 0 ∧ a' = a ∧ AcB W' b a) := fun a n a' W W' hR hf => ⟨hR.1, hR.2.1, Blk.fr hR.2.2 hf (fun h => by have : b = m := h; omega)⟩
  refine change_any _ k_get _ p m S s W hW hs hS (At1 b) _ h1 h2 h3 h4 ?_
  intro a W' q hga hf hq hqa
  have hgb' : AcB W' b noA := Blk.fr hgb hf (fun h => h)
  refine (get1_any q b a noA W' hqa hgb' (by omega)).mono ?_
  rintro e w3 ⟨rfl, h2, h3, h4⟩
  exact ⟨_, _, rfl, rfl, h2, h4.mono fun _ _ h => .inr h, rfl, rfl, h3⟩

end Go.Proofs.YtjbeaoabhhaiiaaGreat
