/- Contracts of package chart: what is done with one account. Contracts of package chart: the deeds themselves. Contracts of package chart: Aside's and Get's deeds. Contracts of package chart: Get. Contracts of package chart: All. Contracts of package chart: a chart that is nil. -/
import Derived.Test.YtcpgamidimfflaaGreatQ06
import Derived.Deep.RegionHeld3
import Derived.Deep.DrawnRows
import Derived.Deep.QuietTactic
import Derived.BigQuiet
import Derived.Test.YtcpgamidimfflaaGreatIter
namespace Go.Proofs.YtcpgamidimfflaaGreat
open Go.RowKit Go.My Go.Maps
set_option linter.unusedSimpArgs false
set_option linter.unusedVariables false
attribute [local go_sem ↓] Go.wp_at_zero Go.wp_at_succ
def AcB (w : World) (q : Nat) (a : Ac) : Prop := Blk w q 124 #[.string ⟨a.name.toArray⟩, .int .i64 a.hv, .int .i64 a.st, .int .i64 a.lim]
def ChRet (p m : Nat) (S : List Ac) (nm : List UInt8) (Fd : Nat → Prop) (R : Ac → Int → Ac → World → Prop) (w : World) (e : Ending) (w' : World) : Prop :=
  (getA S nm = none ∧ e = .returned (.int .i64 6) ∧ ChS w' p m S ∧ Fr No w w') ∨
  ∃ a n a', getA S nm = some a ∧ e = .returned (.int .i64 n) ∧ a'.name = nm ∧ ChS w' p m (if n = 0 then putA a' S else S) ∧ Fr (fun i => i = m ∨ Fd i) w w' ∧ R a n a' w'
set_option maxRecDepth 100000 in
set_option maxHeartbeats 2000000 in
theorem change_any (k : FuncId) (hk : ∀ args W, (callFunc k args).run Tryz.prog W = .ok (.enter k args) W) (c : Value) (p m : Nat) (S : List Ac) (s : ByteArray) (w : World) (h : ChS w p m S) (hs : s.size ≤ maxLen) (hS : S.length ≤ 12) (Fd : Nat → Prop) (R : Ac → Int → Ac → World → Prop)
    (hFp : ¬ Fd p) (hFm : ¬ Fd m) (hFl : ∀ i, Fd i → i < w.heap.size) (hR : ∀ a n a' W W', R a n a' W → Fr (At1 m) W W' → R a n a' W')
    (hdo : ∀ a W q, getA S s.data.toList = some a → Fr No w W → w.heap.size ≤ q → AcB W q a → Calls Tryz.prog k #[.pointer (some ⟨q, 0, none⟩), c] W fun e W' => ∃ n a', e = .returned (.int .i64 n) ∧ a'.name = a.name ∧ AcB W' q a' ∧ Fr (fun i => i = q ∨ Fd i) W W' ∧ R a n a' W') :
    Calls Tryz.prog 264 #[.pointer (some ⟨p, 0, none⟩), .string s, .func (.func k) #[] #[c]] w (ChRet p m S s.data.toList Fd R w) := by
  have HS := Lib.hid hs
  have HC := Lib.hid h
  have HNE := Lib.hid h.ne_
  have HR := Lib.hid hR
  have HDO := Lib.hid hdo
  have hpl := h.1.lt
  have hml := h.2.lt
  have c0 := h.1.cell 0
  simp only [List.getElem?_toArray, List.getElem?_cons_zero] at c0
  clear hs hR hdo
  cases hg : getA S s.data.toList with
  | none =>
    have hlk := h.2.look_none s HS.out hg
    have HG := Lib.hid hg
    clear h hg
    go_enter Tryz.func264, Tryz.ntmps264
    go_wp2
    go_ret
    exact .inl ⟨HG.out, rfl, HC.out.no ((Fr.refl _ _).alloc _), (Fr.refl _ _).alloc _⟩
  | some a =>
    have hlk := h.2.look_some s HS.out a hg
    have HG := Lib.hid hg
    have HNM := Lib.hid (getA_some hg).2
    clear h hg
    go_enter Tryz.func264, Tryz.ntmps264
    go_wp2_with fail
    refine (HDO.out a _ _ HG.out ((Fr.refl No w).alloc _) (Nat.le_refl _) (Blk.new _ _ _)).mono ?_
    rintro e w2 ⟨n, a', rfl, hnm, hq2, hf2, hR2⟩
    have hw02 : Fr (fun i => Fd i) w w2 := ((Fr.refl _ w).alloc _).trans' hf2 fun i hi hlt => by
      rcases hi with rfl | hi
      · omega
      · exact hi
    have hC2 : ChS w2 p m S := HC.out.fr hw02 hFp hFm
    have hnm2 : a'.name = s.data.toList := hnm.trans HNM.out
    have hql : w.heap.size < w2.heap.size := hq2.lt
    have hqm : ¬ m = w.heap.size := by omega
    have hqp : ¬ p = w.heap.size := by omega
    by_cases hn : n = 0
    · subst hn
      obtain ⟨nm', h', st', l'⟩ := a'
      simp only at hnm2
      subst hnm2
      have hC3 : ChS w2.drew p m S := hC2.no (Fr.refl _ _).drew
      obtain ⟨w3, hmu, hm3, hf3⟩ := hC3.2.put ⟨s.data.toList, h', st', l'⟩ (by have h := HS.out; simpa using h) (by unfold maxLen; omega)
      have hmu' : (Instr.mapUpdate 184 (.map (some m)) (.string s) (.agg #[.string s, .int .i64 h', .int .i64 st', .int .i64 l'])).run Tryz.prog w2.drew = .ok () w3 := hmu
      have p0 : w2.cell? ⟨p, 0, none⟩ = some (.map (some m)) := hC2.1.cell 0
      have q0 : w2.cell? ⟨w.heap.size, 0, none⟩ = some (.string s) := hq2.cell 0
      have q1 : w2.cell? ⟨w.heap.size, 1, none⟩ = some (.int .i64 h') := hq2.cell 1
      have q2 : w2.cell? ⟨w.heap.size, 2, none⟩ = some (.int .i64 st') := hq2.cell 2
      have q3 : w2.cell? ⟨w.heap.size, 3, none⟩ = some (.int .i64 l') := hq2.cell 3
      have p0' : w3.cell? ⟨p, 0, none⟩ = some (.map (some m)) := ((hC3.1).fr hf3 (fun h => HNE.out h.symm)).cell 0
      have hq3 : Blk w3 w.heap.size 124 #[.string s, .int .i64 h', .int .i64 st', .int .i64 l'] := (show Blk w2.drew w.heap.size 124 #[.string s, .int .i64 h', .int .i64 st', .int .i64 l'] from hq2).fr hf3 (fun h => hqm h.symm)
      have r0 : w3.cell? ⟨w.heap.size, 0, none⟩ = some (.string s) := hq3.cell 0
      have r1 : w3.cell? ⟨w.heap.size, 1, none⟩ = some (.int .i64 h') := hq3.cell 1
      have r2 : w3.cell? ⟨w.heap.size, 2, none⟩ = some (.int .i64 st') := hq3.cell 2
      have r3 : w3.cell? ⟨w.heap.size, 3, none⟩ = some (.int .i64 l') := hq3.cell 3
      have HEND : Hid (ChRet p m S s.data.toList Fd R w (.returned (.int .i64 0)) w3) := .inr ⟨a, 0, ⟨s.data.toList, h', st', l'⟩, HG.out, rfl, rfl, ⟨hC3.1.fr hf3 (fun h => HNE.out h.symm), by rw [if_pos rfl]; exact hm3⟩, by
        have h1 : Fr (fun i => i = m ∨ Fd i) w w2.drew := (hw02.mono fun _ _ h => .inr h).drew
        exact h1.trans (hf3.mono fun _ _ h => .inl h), HR.out _ _ _ _ _ hR2 ((Fr.refl (At1 m) w2).drew.trans hf3)⟩
      clear hmu hm3 hf3 hq3 hC3 hC2 hw02 hf2 hR2 hnm c0 hlk
      go_wp2_with fail
      go_region_held3 (fun W => W.cell? ⟨p, 0, none⟩ = some (.map (some m)) ∧ W.cell? ⟨w.heap.size, 0, none⟩ = some (.string s) ∧ W.cell? ⟨w.heap.size, 1, none⟩ = some (.int .i64 h') ∧ W.cell? ⟨w.heap.size, 2, none⟩ = some (.int .i64 st') ∧ W.cell? ⟨w.heap.size, 3, none⟩ = some (.int .i64 l'))
        (first | exact ⟨p0, q0, q1, q2, q3⟩ | exact ⟨p0', r0, r1, r2, r3⟩) (fail)
      go_wp2
      go_ret
      exact HEND.out
    · have hb : (n != 0) = true := by rw [bne_iff_ne]; exact hn
      have HEND : Hid (ChRet p m S s.data.toList Fd R w (.returned (.int .i64 n)) w2) := .inr ⟨a, n, a', HG.out, rfl, hnm2, by rw [if_neg hn]; exact hC2, hw02.mono fun _ _ h => .inr h, hR2⟩
      clear hn c0 hlk
      go_wp2
      go_ret
      exact HEND.out
end Go.Proofs.YtcpgamidimfflaaGreat
namespace Go.Proofs.YtcpgamidimfflaaGreat
open Go.RowKit Go.My Go.Maps
set_option linter.unusedSimpArgs false
set_option linter.unusedVariables false
attribute [local go_sem ↓] Go.wp_at_zero Go.wp_at_succ
def OkA (a : Ac) : Prop := In64 a.hv ∧ (0 ≤ a.st ∧ a.st ≤ 9223372036854775807) ∧ (0 ≤ a.lim ∧ a.lim ≤ 9223372036854775807)
def freeB (a : Ac) (x : Int) : Bool := decide (-a.lim ≤ a.hv - a.st - x)
theorem total3 (a b c : Int) : total [a, b, c] = a + b + c := by simp [total_cons, total_nil]; omega
set_option maxRecDepth 100000 in
set_option maxHeartbeats 1000000 in
theorem cangive_any (a : Ac) (x : Int) (w : World) (ha : OkA a) (hx : 0 < x ∧ x ≤ 9223372036854775807) :
    Calls Tryz.prog 272 #[.agg #[.string ⟨a.name.toArray⟩, .int .i64 a.hv, .int .i64 a.st, .int .i64 a.lim], .int .i64 x] w fun e w' => e = .returned (.bool (freeB a x)) ∧ Below w.heap.size w w' := by
  obtain ⟨h1, h2, h3⟩ := ha
  have hT : Hid (∀ (A : Option Addr) W, Rd W (fun _ => True) 1 A 3 (is_ [a.hv, -a.st, -x]) → Calls Tryz.prog 282 #[.slice A 3 3] W fun e w' => e = .returned (two64 (a.hv - a.st - x)) ∧ W = w') := fun A W hr => by
    have h := total_any (fun _ => True) A 3 [a.hv, -a.st, -x] W hr (fun y hy => by
      simp only [List.mem_cons, List.not_mem_nil, or_false] at hy
      unfold In64 at h1 ⊢
      rcases hy with rfl | rfl | rfl <;> omega) (by simp)
    rw [total3, show a.hv + -a.st + -x = a.hv - a.st - x by omega] at h
    exact h
  have hres : Hid ((In64 (a.hv - a.st - x) → two64 (a.hv - a.st - x) = .tuple #[.int .i64 (a.hv - a.st - x), .int .i64 0]) ∧ (¬ In64 (a.hv - a.st - x) → two64 (a.hv - a.st - x) = .tuple #[.int .i64 0, .int .i64 2] ∧ freeB a x = false)) :=
    ⟨fun h => two64_in h, fun h => ⟨two64_out h, by unfold freeB; rw [decide_eq_false_iff_not]; unfold In64 at h h1; omega⟩⟩
  have hfr : Hid (freeB a x = decide (-a.lim ≤ a.hv - a.st - x)) := rfl
  obtain ⟨nm, hv, st, lim⟩ := a
  simp only at *
  unfold In64 at h1
  obtain ⟨hx1, hx2⟩ := hx
  have hrd : Hid (∀ o : Obj, Calls Tryz.prog 282 #[.slice (some ⟨w.heap.size + 1, 0, none⟩) 3 3] ((w.alloc o).alloc (.cells #[.int .i64 hv, .int .i64 (-st), .int .i64 (-x)] 2)) fun e w' => e = .returned (two64 (hv - st - x)) ∧ ((w.alloc o).alloc (.cells #[.int .i64 hv, .int .i64 (-st), .int .i64 (-x)] 2)) = w') := fun o => by
    have hb := Blk.new (w.alloc o) 2 #[.int .i64 hv, .int .i64 (-st), .int .i64 (-x)]
    rw [World.size_alloc] at hb
    exact hT.out _ _ ⟨rfl, fun _ => ⟨_, rfl, trivial, World.news_of_block hb⟩⟩
  have hbel : Hid (∀ o o' : Obj, Below w.heap.size w ((w.alloc o).alloc o')) := fun o o' => ((Below.refl _ _).alloc (Nat.le_refl _) _).alloc (by simp) _
  go_enter Tryz.func272, Tryz.ntmps272
  go_wp2_with fail
  refine (hrd.out _).mono ?_
  rintro e w2 ⟨rfl, rfl⟩
  by_cases hin : In64 (hv - st - x)
  · rw [hres.out.1 hin]
    unfold In64 at hin
    go_wp2
    go_ret
    refine ⟨?_, hbel.out _ _⟩
    rw [hfr.out]
    rfl
  · obtain ⟨h4, h5⟩ := hres.out.2 hin
    have H5 := Lib.hid h5
    rw [h4]
    clear h4 h5 hin
    go_wp2
    go_ret
    refine ⟨?_, hbel.out _ _⟩
    rw [H5.out]
    rfl
def XB (w : World) (b : Nat) (x : Int) : Prop := Blk w b 2 #[.int .i64 x]
def giveE (a : Ac) (x : Int) : Int := if In64 (a.hv - x) then (if 0 < x ∧ freeB a x = false then 9 else 0) else 2
def giveA (a : Ac) (x : Int) : Ac := if giveE a x = 0 then { a with hv := a.hv - x } else a
def asideE (a : Ac) (x : Int) : Int := if In64 (a.st + x) then (if 0 < x ∧ freeB a x = false then 9 else if a.st + x < 0 then 13 else 0) else 2
def asideA (a : Ac) (x : Int) : Ac := if asideE a x = 0 then { a with st := a.st + x } else a
def DeedRet (q : Nat) (n : Int) (a' : Ac) (w : World) (e : Ending) (w' : World) : Prop := e = .returned (.int .i64 n) ∧ AcB w' q a' ∧ Fr (At1 q) w w'
theorem acb_cells {w : World} {q : Nat} {nm : List UInt8} {hv st lim : Int} (h : AcB w q ⟨nm, hv, st, lim⟩) :
    w.cell? ⟨q, 0, none⟩ = some (.string ⟨nm.toArray⟩) ∧ w.cell? ⟨q, 1, none⟩ = some (.int .i64 hv) ∧ w.cell? ⟨q, 2, none⟩ = some (.int .i64 st) ∧ w.cell? ⟨q, 3, none⟩ = some (.int .i64 lim) :=
  ⟨h.cell 0, h.cell 1, h.cell 2, h.cell 3⟩
set_option maxRecDepth 100000 in
set_option maxHeartbeats 2000000 in
theorem give1_any (q xb : Nat) (a : Ac) (x : Int) (w : World) (h : AcB w q a) (hx : XB w xb x) (hne : q ≠ xb) (ha : OkA a) (hxi : In64 x) :
    Calls Tryz.prog 283 #[.pointer (some ⟨q, 0, none⟩), .pointer (some ⟨xb, 0, none⟩)] w (DeedRet q (giveE a x) (giveA a x) w) := by
  have HL : Hid (∀ W : World, Calls Tryz.prog 284 #[.int .i64 a.hv, .int .i64 x] W fun e w' => e = .returned (two64 (a.hv - x)) ∧ w' = W) := fun W => (less_any a.hv x W ha.1 hxi).mono fun _ _ h => ⟨h.1, h.2.symm⟩
  have HCG : Hid (∀ W : World, 0 < x → Calls Tryz.prog 272 #[.agg #[.string ⟨a.name.toArray⟩, .int .i64 a.hv, .int .i64 a.st, .int .i64 a.lim], .int .i64 x] W fun e w' => e = .returned (.bool (freeB a x)) ∧ Below W.heap.size W w') := fun W h0 =>
    cangive_any a x W ha ⟨h0, by unfold In64 at hxi; omega⟩
  have HA := Lib.hid h
  have HX := Lib.hid hx
  have hql := h.lt
  have hxl := hx.lt
  have HE : Hid (giveE a x = (if In64 (a.hv - x) then (if 0 < x ∧ freeB a x = false then 9 else 0) else 2) ∧ giveA a x = if giveE a x = 0 then { a with hv := a.hv - x } else a) := ⟨rfl, rfl⟩
  generalize giveE a x = ge at *
  generalize giveA a x = ga at *
  generalize freeB a x = fb at *
  obtain ⟨nm, hv, st, lim⟩ := a
  simp only at *
  obtain ⟨c0, c1, c2, c3⟩ := acb_cells h
  have d0 := hx.cell 0
  simp only [List.getElem?_toArray, List.getElem?_cons_zero] at d0
  have HF : Hid (∀ W, Fr No w W → AcB W q ⟨nm, hv, st, lim⟩ ∧ (W.cell? ⟨q, 0, none⟩ = some (.string ⟨nm.toArray⟩) ∧ W.cell? ⟨q, 1, none⟩ = some (.int .i64 hv) ∧ W.cell? ⟨q, 2, none⟩ = some (.int .i64 st) ∧ W.cell? ⟨q, 3, none⟩ = some (.int .i64 lim) ∧ W.cell? ⟨xb, 0, none⟩ = some (.int .i64 x))) := fun W hW => by
    have hA : AcB W q ⟨nm, hv, st, lim⟩ := Blk.fr h hW (fun h => h)
    have hB : XB W xb x := Blk.fr hx hW (fun h => h)
    obtain ⟨e0, e1, e2, e3⟩ := acb_cells hA
    exact ⟨hA, e0, e1, e2, e3, hB.cell 0⟩
  have HEND : Hid (∀ W, Fr No w W → DeedRet q 0 ⟨nm, hv - x, st, lim⟩ w (.returned (.int .i64 0)) (W.setCell ⟨q, 1, none⟩ (.int .i64 (hv - x)))) := fun W hW => by
    have hA : AcB W q ⟨nm, hv, st, lim⟩ := Blk.fr h hW (fun h => h)
    exact ⟨rfl, hA.set_ 1 (.int .i64 (hv - x)), Fr.setCell (S := At1 q) (p := ⟨q, 1, none⟩) (hW.mono fun _ _ h => False.elim h) (fun _ => rfl) _⟩
  have HSTAY : Hid (∀ n W, Fr No w W → DeedRet q n ⟨nm, hv, st, lim⟩ w (.returned (.int .i64 n)) W) := fun n W hW => ⟨rfl, Blk.fr h hW (fun h => h), hW.mono fun _ _ h => False.elim h⟩
  unfold In64 at hxi
  clear h hx ha HA HX
  by_cases hin : In64 (hv - x)
  · rw [two64_in hin] at HL
    rw [if_pos hin] at HE
    unfold In64 at hin
    go_enter Tryz.func283, Tryz.ntmps283
    go_wp2_with fail
    go_quiet ((go_at_call 284; exact Calls.quiet_of_same (HL.out _)))
    by_cases hpos : 0 < x
    · have HP := Lib.hid hpos
      go_upto_region 4 with (fail)
      have hw1 : Fr No w (w.drewN nq).drew := ((Fr.refl _ _).drewN nq).drew
      cases fb
      · have HEE : Hid (ge = 9 ∧ ga = ⟨nm, hv, st, lim⟩) := by
          have h1 := HE.out
          rw [if_pos ⟨hpos, rfl⟩] at h1
          exact ⟨h1.1, by rw [h1.2, h1.1, if_neg (by decide)]⟩
        go_region_held3 (fun W => W.cell? ⟨q, 0, none⟩ = some (.string ⟨nm.toArray⟩) ∧ W.cell? ⟨q, 1, none⟩ = some (.int .i64 hv) ∧ W.cell? ⟨q, 2, none⟩ = some (.int .i64 st) ∧ W.cell? ⟨q, 3, none⟩ = some (.int .i64 lim) ∧ W.cell? ⟨xb, 0, none⟩ = some (.int .i64 x))
          (first | exact (HF.out _ hw1).2 | exact (HF.out _ hf3).2)
          (first | (go_at_call 272; refine (HCG.out _ HP.out).mono ?_; rintro e w3 ⟨rfl, hb3⟩; have hf3 := hw1.trans (Fr.of_below hb3 _)))
        go_wp2
        go_ret
        obtain ⟨rfl, rfl⟩ := HEE.out
        exact HSTAY.out 9 _ hf3
      · have HEE : Hid (ge = 0 ∧ ga = ⟨nm, hv - x, st, lim⟩) := by
          have h1 := HE.out
          rw [if_neg (by simp)] at h1
          exact ⟨h1.1, by rw [h1.2, h1.1, if_pos rfl]⟩
        go_region_held3 (fun W => W.cell? ⟨q, 0, none⟩ = some (.string ⟨nm.toArray⟩) ∧ W.cell? ⟨q, 1, none⟩ = some (.int .i64 hv) ∧ W.cell? ⟨q, 2, none⟩ = some (.int .i64 st) ∧ W.cell? ⟨q, 3, none⟩ = some (.int .i64 lim) ∧ W.cell? ⟨xb, 0, none⟩ = some (.int .i64 x))
          (first | exact (HF.out _ hw1).2 | exact (HF.out _ hf3).2)
          (first | (go_at_call 272; refine (HCG.out _ HP.out).mono ?_; rintro e w3 ⟨rfl, hb3⟩; have hf3 := hw1.trans (Fr.of_below hb3 _)))
        have c1' := (HF.out _ hf3).2.2.1
        have f1' := (HF.out _ hf3).1.frozen 1
        go_wp2
        go_ret
        obtain ⟨rfl, rfl⟩ := HEE.out
        exact HEND.out _ hf3
    · have HEE : Hid (ge = 0 ∧ ga = ⟨nm, hv - x, st, lim⟩) := by
        have h1 := HE.out
        rw [if_neg (fun h => hpos h.1)] at h1
        exact ⟨h1.1, by rw [h1.2, h1.1, if_pos rfl]⟩
      have hd : decide (0 < x) = false := decide_eq_false hpos
      have f1 := (HF.out _ (Fr.refl _ _)).1.frozen 1
      go_upto_region 4 with (fail)
      go_quiet (fail)
      go_wp2
      go_ret
      obtain ⟨rfl, rfl⟩ := HEE.out
      first | exact HEND.out _ (((Fr.refl _ _).drewN _).drewN _) | exact HEND.out _ ((Fr.refl _ _).drewN _)
  · rw [two64_out hin] at HL
    rw [if_neg hin] at HE
    have HEE : Hid (ge = 2 ∧ ga = ⟨nm, hv, st, lim⟩) := ⟨HE.out.1, by rw [HE.out.2, HE.out.1, if_neg (by decide)]⟩
    clear hin
    go_enter Tryz.func283, Tryz.ntmps283
    go_wp2_with fail
    go_quiet ((go_at_call 284; exact Calls.quiet_of_same (HL.out _)))
    go_wp2
    go_ret
    obtain ⟨rfl, rfl⟩ := HEE.out
    exact HSTAY.out 2 _ ((Fr.refl _ _).drewN _)
end Go.Proofs.YtcpgamidimfflaaGreat
namespace Go.Proofs.YtcpgamidimfflaaGreat
open Go.RowKit Go.My Go.Maps
set_option linter.unusedSimpArgs false
set_option linter.unusedVariables false
attribute [local go_sem ↓] Go.wp_at_zero Go.wp_at_succ
set_option maxRecDepth 100000 in
set_option maxHeartbeats 2000000 in
theorem aside1_any (q xb : Nat) (a : Ac) (x : Int) (w : World) (h : AcB w q a) (hx : XB w xb x) (hne : q ≠ xb) (ha : OkA a) (hxi : In64 x) :
    Calls Tryz.prog 270 #[.pointer (some ⟨q, 0, none⟩), .pointer (some ⟨xb, 0, none⟩)] w (DeedRet q (asideE a x) (asideA a x) w) := by
  have HL : Hid (∀ W : World, Calls Tryz.prog 271 #[.int .i64 a.st, .int .i64 x] W fun e w' => e = .returned (two64 (a.st + x)) ∧ w' = W) := fun W => (add_any a.st x W (by have := ha.2.1; unfold In64; omega) hxi).mono fun _ _ h => ⟨h.1, h.2.symm⟩
  have HCG : Hid (∀ W : World, 0 < x → Calls Tryz.prog 272 #[.agg #[.string ⟨a.name.toArray⟩, .int .i64 a.hv, .int .i64 a.st, .int .i64 a.lim], .int .i64 x] W fun e w' => e = .returned (.bool (freeB a x)) ∧ Below W.heap.size W w') := fun W h0 =>
    cangive_any a x W ha ⟨h0, by unfold In64 at hxi; omega⟩
  have HA := Lib.hid h
  have HX := Lib.hid hx
  have hql := h.lt
  have hxl := hx.lt
  have HE : Hid (asideE a x = (if In64 (a.st + x) then (if 0 < x ∧ freeB a x = false then 9 else if a.st + x < 0 then 13 else 0) else 2) ∧ asideA a x = if asideE a x = 0 then { a with st := a.st + x } else a) := ⟨rfl, rfl⟩
  generalize asideE a x = ge at *
  generalize asideA a x = ga at *
  generalize freeB a x = fb at *
  obtain ⟨nm, hv, st, lim⟩ := a
  simp only at *
  obtain ⟨c0, c1, c2, c3⟩ := acb_cells h
  have d0 := hx.cell 0
  simp only [List.getElem?_toArray, List.getElem?_cons_zero] at d0
  have HF : Hid (∀ W, Fr No w W → AcB W q ⟨nm, hv, st, lim⟩ ∧ (W.cell? ⟨q, 0, none⟩ = some (.string ⟨nm.toArray⟩) ∧ W.cell? ⟨q, 1, none⟩ = some (.int .i64 hv) ∧ W.cell? ⟨q, 2, none⟩ = some (.int .i64 st) ∧ W.cell? ⟨q, 3, none⟩ = some (.int .i64 lim) ∧ W.cell? ⟨xb, 0, none⟩ = some (.int .i64 x))) := fun W hW => by
    have hA : AcB W q ⟨nm, hv, st, lim⟩ := Blk.fr h hW (fun h => h)
    have hB : XB W xb x := Blk.fr hx hW (fun h => h)
    obtain ⟨e0, e1, e2, e3⟩ := acb_cells hA
    exact ⟨hA, e0, e1, e2, e3, hB.cell 0⟩
  have HEND : Hid (∀ W, Fr No w W → DeedRet q 0 ⟨nm, hv, st + x, lim⟩ w (.returned (.int .i64 0)) (W.setCell ⟨q, 2, none⟩ (.int .i64 (st + x)))) := fun W hW => by
    have hA : AcB W q ⟨nm, hv, st, lim⟩ := Blk.fr h hW (fun h => h)
    exact ⟨rfl, hA.set_ 2 (.int .i64 (st + x)), Fr.setCell (S := At1 q) (p := ⟨q, 2, none⟩) (hW.mono fun _ _ h => False.elim h) (fun _ => rfl) _⟩
  have HSTAY : Hid (∀ n W, Fr No w W → DeedRet q n ⟨nm, hv, st, lim⟩ w (.returned (.int .i64 n)) W) := fun n W hW => ⟨rfl, Blk.fr h hW (fun h => h), hW.mono fun _ _ h => False.elim h⟩
  unfold In64 at hxi
  clear h hx ha HA HX
  by_cases hin : In64 (st + x)
  · rw [two64_in hin] at HL
    rw [if_pos hin] at HE
    unfold In64 at hin
    go_enter Tryz.func270, Tryz.ntmps270
    go_wp2_with fail
    go_quiet ((go_at_call 271; exact Calls.quiet_of_same (HL.out _)))
    by_cases hpos : 0 < x
    · have HP := Lib.hid hpos
      go_upto_region 4 with (fail)
      have hw1 : Fr No w (w.drewN nq).drew := ((Fr.refl _ _).drewN nq).drew
      cases fb
      · have HEE : Hid (ge = 9 ∧ ga = ⟨nm, hv, st, lim⟩) := by
          have h1 := HE.out
          rw [if_pos ⟨hpos, rfl⟩] at h1
          exact ⟨h1.1, by rw [h1.2, h1.1, if_neg (by decide)]⟩
        go_region_held3 (fun W => W.cell? ⟨q, 0, none⟩ = some (.string ⟨nm.toArray⟩) ∧ W.cell? ⟨q, 1, none⟩ = some (.int .i64 hv) ∧ W.cell? ⟨q, 2, none⟩ = some (.int .i64 st) ∧ W.cell? ⟨q, 3, none⟩ = some (.int .i64 lim) ∧ W.cell? ⟨xb, 0, none⟩ = some (.int .i64 x))
          (first | exact (HF.out _ hw1).2 | exact (HF.out _ hf3).2)
          (first | (go_at_call 272; refine (HCG.out _ HP.out).mono ?_; rintro e w3 ⟨rfl, hb3⟩; have hf3 := hw1.trans (Fr.of_below hb3 _)))
        go_wp2
        go_ret
        obtain ⟨rfl, rfl⟩ := HEE.out
        exact HSTAY.out 9 _ hf3
      · by_cases hneg : st + x < 0
        · have HEE : Hid (ge = 13 ∧ ga = ⟨nm, hv, st, lim⟩) := by
            have h1 := HE.out
            rw [if_neg (by simp), if_pos hneg] at h1
            exact ⟨h1.1, by rw [h1.2, h1.1, if_neg (by decide)]⟩
          have hdn : decide (st + x < 0) = true := decide_eq_true hneg
          go_region_held3 (fun W => W.cell? ⟨q, 0, none⟩ = some (.string ⟨nm.toArray⟩) ∧ W.cell? ⟨q, 1, none⟩ = some (.int .i64 hv) ∧ W.cell? ⟨q, 2, none⟩ = some (.int .i64 st) ∧ W.cell? ⟨q, 3, none⟩ = some (.int .i64 lim) ∧ W.cell? ⟨xb, 0, none⟩ = some (.int .i64 x))
            (first | exact (HF.out _ hw1).2 | exact (HF.out _ hf3).2)
            (first | (go_at_call 272; refine (HCG.out _ HP.out).mono ?_; rintro e w3 ⟨rfl, hb3⟩; have hf3 := hw1.trans (Fr.of_below hb3 _)))
          have hf4 := (HF.out _ hf3).2
          go_wp2
          go_ret
          obtain ⟨rfl, rfl⟩ := HEE.out
          exact HSTAY.out 13 _ hf3
        · have HEE : Hid (ge = 0 ∧ ga = ⟨nm, hv, st + x, lim⟩) := by
            have h1 := HE.out
            rw [if_neg (by simp), if_neg hneg] at h1
            exact ⟨h1.1, by rw [h1.2, h1.1, if_pos rfl]⟩
          have hdn : decide (st + x < 0) = false := decide_eq_false hneg
          go_region_held3 (fun W => W.cell? ⟨q, 0, none⟩ = some (.string ⟨nm.toArray⟩) ∧ W.cell? ⟨q, 1, none⟩ = some (.int .i64 hv) ∧ W.cell? ⟨q, 2, none⟩ = some (.int .i64 st) ∧ W.cell? ⟨q, 3, none⟩ = some (.int .i64 lim) ∧ W.cell? ⟨xb, 0, none⟩ = some (.int .i64 x))
            (first | exact (HF.out _ hw1).2 | exact (HF.out _ hf3).2)
            (first | (go_at_call 272; refine (HCG.out _ HP.out).mono ?_; rintro e w3 ⟨rfl, hb3⟩; have hf3 := hw1.trans (Fr.of_below hb3 _)))
          have c2' := (HF.out _ hf3).2.2.2.1
          have f2' := (HF.out _ hf3).1.frozen 2
          go_wp2
          go_ret
          obtain ⟨rfl, rfl⟩ := HEE.out
          exact HEND.out _ hf3
    · have hd : decide (0 < x) = false := decide_eq_false hpos
      have f2 := (HF.out _ (Fr.refl _ _)).1.frozen 2
      by_cases hneg : st + x < 0
      · have HEE : Hid (ge = 13 ∧ ga = ⟨nm, hv, st, lim⟩) := by
          have h1 := HE.out
          rw [if_neg (fun h => hpos h.1), if_pos hneg] at h1
          exact ⟨h1.1, by rw [h1.2, h1.1, if_neg (by decide)]⟩
        have hdn : decide (st + x < 0) = true := decide_eq_true hneg
        go_upto_region 4 with (fail)
        go_quiet (fail)
        go_wp2
        go_ret
        obtain ⟨rfl, rfl⟩ := HEE.out
        first | exact HSTAY.out 13 _ (((Fr.refl _ _).drewN _).drewN _) | exact HSTAY.out 13 _ ((Fr.refl _ _).drewN _)
      · have HEE : Hid (ge = 0 ∧ ga = ⟨nm, hv, st + x, lim⟩) := by
          have h1 := HE.out
          rw [if_neg (fun h => hpos h.1), if_neg hneg] at h1
          exact ⟨h1.1, by rw [h1.2, h1.1, if_pos rfl]⟩
        have hdn : decide (st + x < 0) = false := decide_eq_false hneg
        go_upto_region 4 with (fail)
        go_quiet (fail)
        go_wp2
        go_ret
        obtain ⟨rfl, rfl⟩ := HEE.out
        first | exact HEND.out _ (((Fr.refl _ _).drewN _).drewN _) | exact HEND.out _ ((Fr.refl _ _).drewN _)
  · rw [two64_out hin] at HL
    rw [if_neg hin] at HE
    have HEE : Hid (ge = 2 ∧ ga = ⟨nm, hv, st, lim⟩) := ⟨HE.out.1, by rw [HE.out.2, HE.out.1, if_neg (by decide)]⟩
    clear hin
    go_enter Tryz.func270, Tryz.ntmps270
    go_wp2_with fail
    go_quiet ((go_at_call 271; exact Calls.quiet_of_same (HL.out _)))
    go_wp2
    go_ret
    obtain ⟨rfl, rfl⟩ := HEE.out
    exact HSTAY.out 2 _ ((Fr.refl _ _).drewN _)
theorem get1_any (q gb : Nat) (a a0 : Ac) (w : World) (h : AcB w q a) (hg : AcB w gb a0) (hne : q ≠ gb) :
    Calls Tryz.prog 265 #[.pointer (some ⟨q, 0, none⟩), .pointer (some ⟨gb, 0, none⟩)] w fun e w' => e = .returned (.int .i64 0) ∧ AcB w' q a ∧ AcB w' gb a ∧ Fr (At1 gb) w w' := by
  obtain ⟨nm, hv, st, lim⟩ := a
  obtain ⟨nm0, hv0, st0, lim0⟩ := a0
  have H1 := Lib.hid h
  have H2 := Lib.hid hg
  have hql := h.lt
  have hgl := hg.lt
  obtain ⟨c0, c1, c2, c3⟩ := acb_cells h
  obtain ⟨d0, d1, d2, d3⟩ := acb_cells hg
  have f0 := hg.frozen 0
  have f1 := hg.frozen 1
  have f2 := hg.frozen 2
  have f3 := hg.frozen 3
  clear h hg
  go_enter Tryz.func265, Tryz.ntmps265
  go_wp2
  go_ret
  have hF : Fr (At1 gb) w ((((w.setCell ⟨gb, 0, none⟩ (.string ⟨nm.toArray⟩)).setCell ⟨gb, 1, none⟩ (.int .i64 hv)).setCell ⟨gb, 2, none⟩ (.int .i64 st)).setCell ⟨gb, 3, none⟩ (.int .i64 lim)) :=
    Fr.setCell (S := At1 gb) (p := ⟨gb, 3, none⟩) (Fr.setCell (S := At1 gb) (p := ⟨gb, 2, none⟩) (Fr.setCell (S := At1 gb) (p := ⟨gb, 1, none⟩) (Fr.setCell (S := At1 gb) (p := ⟨gb, 0, none⟩) (Fr.refl _ _) (fun _ => rfl) _) (fun _ => rfl) _) (fun _ => rfl) _) (fun _ => rfl) _
  exact ⟨rfl, Blk.fr H1.out hF hne, (((Blk.set_ H2.out 0 _).set_ 1 _).set_ 2 _).set_ 3 _, hF⟩
def OkS (S : List Ac) : Prop := ∀ a ∈ S, OkA a
def actE (f : Ac → Int) (S : List Ac) (nm : List UInt8) : Int := match getA S nm with | none => 6 | some a => f a
def actS (f : Ac → Int) (g : Ac → Ac) (S : List Ac) (nm : List UInt8) : List Ac := match getA S nm with | none => S | some a => if f a = 0 then putA (g a) S else S
def DeedsE (p m : Nat) (n : Int) (S' : List Ac) (w : World) (e : Ending) (w' : World) : Prop := e = .returned (.int .i64 n) ∧ ChS w' p m S' ∧ Fr (At1 m) w w'
theorem k_give (args : Array Value) (W : World) : (callFunc 283 args).run Tryz.prog W = .ok (.enter 283 args) W := by kernel_rfl
theorem k_aside (args : Array Value) (W : World) : (callFunc 270 args).run Tryz.prog W = .ok (.enter 270 args) W := by kernel_rfl
theorem k_get (args : Array Value) (W : World) : (callFunc 265 args).run Tryz.prog W = .ok (.enter 265 args) W := by kernel_rfl
theorem act_of {p m : Nat} {S : List Ac} {nm : List UInt8} {f : Ac → Int} {g : Ac → Ac} {w w' : World} {e : Ending}
    (h : ChRet p m S nm No (fun a n a' _ => n = f a ∧ a' = g a) w e w') : DeedsE p m (actE f S nm) (actS f g S nm) w e w' := by
  unfold DeedsE actE actS
  rcases h with ⟨hg, rfl, hc, hf⟩ | ⟨a, n, a', hg, rfl, hnm, hc, hf, rfl, rfl⟩
  · rw [hg]
    exact ⟨rfl, hc, hf.mono fun _ _ h => False.elim h⟩
  · rw [hg]
    exact ⟨rfl, hc, hf.mono fun _ _ h => h.resolve_right fun h => h⟩
theorem giveA_name (a : Ac) (x : Int) : (giveA a x).name = a.name := by unfold giveA; split <;> rfl
theorem asideA_name (a : Ac) (x : Int) : (asideA a x).name = a.name := by unfold asideA; split <;> rfl
set_option maxRecDepth 100000 in
theorem give_any (p m : Nat) (S : List Ac) (s : ByteArray) (x : Int) (w : World) (h : ChS w p m S) (hs : s.size ≤ maxLen) (hS : S.length ≤ 12) (ho : OkS S) (hx : In64 x) :
    Calls Tryz.prog 268 #[.pointer (some ⟨p, 0, none⟩), .string s, .int .i64 x] w (DeedsE p m (actE (fun a => giveE a x) S s.data.toList) (actS (fun a => giveE a x) (fun a => giveA a x) S s.data.toList) w) := by
  have HD : Hid (∀ W, ChS W p m S → XB W w.heap.size x → Calls Tryz.prog 264 #[.pointer (some ⟨p, 0, none⟩), .string s, .func (.func 283) #[] #[.pointer (some ⟨w.heap.size, 0, none⟩)]] W (ChRet p m S s.data.toList No (fun a n a' _ => n = giveE a x ∧ a' = giveA a x) W)) := fun W hW hxb => by
    refine change_any _ k_give _ p m S s W hW hs hS No _ (fun h => h) (fun h => h) (fun _ h => False.elim h) (fun _ _ _ _ _ h _ => h) ?_
    intro a W' q hga hf hq hqa
    have hxb' : XB W' w.heap.size x := Blk.fr hxb hf (fun h => h)
    have hl := hxb.lt
    refine (give1_any q w.heap.size a x W' hqa hxb' (by omega) (ho a (getA_some hga).1) hx).mono ?_
    rintro e w3 ⟨rfl, h2, h3⟩
    exact ⟨_, _, rfl, giveA_name a x, h2, h3.mono fun _ _ h => .inl h, rfl, rfl⟩
  have HC := Lib.hid h
  clear h hs ho hx hS
  go_enter Tryz.func268, Tryz.ntmps268
  go_wp2_with fail
  have hf : Fr No w (w.alloc (.cells #[.int .i64 x] 2)) := (Fr.refl _ _).alloc _
  refine (HD.out _ (HC.out.no hf) (Blk.new _ _ _)).mono ?_
  intro e w2 h
  obtain ⟨rfl, h2, h3⟩ := act_of h
  have HE : Hid (DeedsE p m (actE (fun a => giveE a x) S s.data.toList) (actS (fun a => giveE a x) (fun a => giveA a x) S s.data.toList) w (.returned (.int .i64 (actE (fun a => giveE a x) S s.data.toList))) w2) := ⟨rfl, h2, (hf.mono fun _ _ h => False.elim h).trans h3⟩
  clear h h2 h3
  go_wp2
  go_ret
  exact HE.out
set_option maxRecDepth 100000 in
theorem aside_any (p m : Nat) (S : List Ac) (s : ByteArray) (x : Int) (w : World) (h : ChS w p m S) (hs : s.size ≤ maxLen) (hS : S.length ≤ 12) (ho : OkS S) (hx : In64 x) :
    Calls Tryz.prog 229 #[.pointer (some ⟨p, 0, none⟩), .string s, .int .i64 x] w (DeedsE p m (actE (fun a => asideE a x) S s.data.toList) (actS (fun a => asideE a x) (fun a => asideA a x) S s.data.toList) w) := by
  have HD : Hid (∀ W, ChS W p m S → XB W w.heap.size x → Calls Tryz.prog 264 #[.pointer (some ⟨p, 0, none⟩), .string s, .func (.func 270) #[] #[.pointer (some ⟨w.heap.size, 0, none⟩)]] W (ChRet p m S s.data.toList No (fun a n a' _ => n = asideE a x ∧ a' = asideA a x) W)) := fun W hW hxb => by
    refine change_any _ k_aside _ p m S s W hW hs hS No _ (fun h => h) (fun h => h) (fun _ h => False.elim h) (fun _ _ _ _ _ h _ => h) ?_
    intro a W' q hga hf hq hqa
    have hxb' : XB W' w.heap.size x := Blk.fr hxb hf (fun h => h)
    have hl := hxb.lt
    refine (aside1_any q w.heap.size a x W' hqa hxb' (by omega) (ho a (getA_some hga).1) hx).mono ?_
    rintro e w3 ⟨rfl, h2, h3⟩
    exact ⟨_, _, rfl, asideA_name a x, h2, h3.mono fun _ _ h => .inl h, rfl, rfl⟩
  have HC := Lib.hid h
  clear h hs ho hx hS
  go_enter Tryz.func229, Tryz.ntmps229
  go_wp2_with fail
  have hf : Fr No w (w.alloc (.cells #[.int .i64 x] 2)) := (Fr.refl _ _).alloc _
  refine (HD.out _ (HC.out.no hf) (Blk.new _ _ _)).mono ?_
  intro e w2 h
  obtain ⟨rfl, h2, h3⟩ := act_of h
  have HE : Hid (DeedsE p m (actE (fun a => asideE a x) S s.data.toList) (actS (fun a => asideE a x) (fun a => asideA a x) S s.data.toList) w (.returned (.int .i64 (actE (fun a => asideE a x) S s.data.toList))) w2) := ⟨rfl, h2, (hf.mono fun _ _ h => False.elim h).trans h3⟩
  clear h h2 h3
  go_wp2
  go_ret
  exact HE.out
def getV (S : List Ac) (nm : List UInt8) : Ac := (getA S nm).getD noA
def GotC (p m : Nat) (S : List Ac) (nm : List UInt8) (w : World) (e : Ending) (w' : World) : Prop :=
  e = .returned (.tuple #[(getV S nm).val, .int .i64 (if (getA S nm).isSome then 0 else 6)]) ∧ ChS w' p m S ∧ Fr (At1 m) w w'
theorem putA_self {S : List Ac} {a : Ac} (hr : Rise S) (h : getA S a.name = some a) : putA a S = S := by
  induction S with
  | nil => cases h
  | cons c r ih =>
    obtain ⟨h1, h2⟩ := List.pairwise_cons.1 hr
    have hsame : ∀ b : Ac, b.key.sameKey a.key = (b.name == a.name) := fun _ => rfl
    unfold getA at h
    rw [List.find?_cons] at h
    unfold putA
    rw [List.filter_cons, hsame]
    by_cases hc : c.name = a.name
    · rw [beq_iff_eq.2 hc] at h ⊢
      simp only at h
      injection h with h
      subst h
      have hfil : r.filter (fun b => !b.key.sameKey c.key) = r := by
        rw [List.filter_eq_self]
        intro b hb
        rw [hsame]
        have h3 := h1 b hb
        cases he : b.name == c.name
        · rfl
        · rw [show b.key = c.key by unfold Ac.key; rw [beq_iff_eq.1 he], WideShapes.before_irrefl] at h3
          cases h3
      rw [hfil]
      simp only [Bool.not_true, Bool.false_eq_true, if_false]
      cases r with
      | nil => rfl
      | cons b r =>
        unfold insA
        rw [if_pos (h1 b List.mem_cons_self)]
    · have hcb : (c.name == a.name) = false := by rw [beq_eq_false_iff_ne]; exact hc
      rw [hcb] at h ⊢
      simp only [Bool.not_false, if_true]
      have ham : a ∈ r := List.mem_of_find?_eq_some h
      unfold insA
      rw [if_neg (fun h' => by
        have h3 := WideShapes.before_trans h' (h1 a ham)
        rw [WideShapes.before_irrefl] at h3
        cases h3)]
      have := ih h2 h
      unfold putA at this
      rw [this]
theorem getch_any (b p m : Nat) (S : List Ac) (s : ByteArray) (W : World) (hW : ChS W p m S) (hs : s.size ≤ maxLen) (hS : S.length ≤ 12) (hgb : AcB W b noA) (hm : m < b) (hp : p < b) (hl : b < W.heap.size) :
    Calls Tryz.prog 264 #[.pointer (some ⟨p, 0, none⟩), .string s, .func (.func 265) #[] #[.pointer (some ⟨b, 0, none⟩)]] W (ChRet p m S s.data.toList (At1 b) (fun a n a' W => n = 0 ∧ a' = a ∧ AcB W b a) W) := by
  have h1 : ¬ At1 b p := fun h => by have : p = b := h; omega
  have h2 : ¬ At1 b m := fun h => by have : m = b := h; omega
  have h3 : ∀ i, At1 b i → i < W.heap.size := fun i h => by have : i = b := h; omega
  have h4 : ∀ (a : Ac) (n : Int) (a' : Ac) (W W' : World), (n = 0 ∧ a' = a ∧ AcB W b a) → Fr (At1 m) W W' → (n = 0 ∧ a' = a ∧ AcB W' b a) := fun a n a' W W' hR hf => ⟨hR.1, hR.2.1, Blk.fr hR.2.2 hf (fun h => by have : b = m := h; omega)⟩
  refine change_any _ k_get _ p m S s W hW hs hS (At1 b) _ h1 h2 h3 h4 ?_
  intro a W' q hga hf hq hqa
  have hgb' : AcB W' b noA := Blk.fr hgb hf (fun h => h)
  refine (get1_any q b a noA W' hqa hgb' (by omega)).mono ?_
  rintro e w3 ⟨rfl, h2, h3, h4⟩
  exact ⟨_, _, rfl, rfl, h2, h4.mono fun _ _ h => .inr h, rfl, rfl, h3⟩
end Go.Proofs.YtcpgamidimfflaaGreat
namespace Go.Proofs.YtcpgamidimfflaaGreat
open Go.RowKit Go.My Go.Maps
set_option linter.unusedSimpArgs false
set_option linter.unusedVariables false
attribute [local go_sem ↓] Go.wp_at_zero Go.wp_at_succ
set_option maxRecDepth 100000 in
theorem get_any (p m : Nat) (S : List Ac) (s : ByteArray) (w : World) (h : ChS w p m S) (hs : s.size ≤ maxLen) (hS : S.length ≤ 12) :
    Calls Tryz.prog 225 #[.pointer (some ⟨p, 0, none⟩), .string s] w (GotC p m S s.data.toList w) := by
  have HD : Hid (∀ b W, Fr No w W → w.heap.size ≤ b → b < W.heap.size → AcB W b noA → Calls Tryz.prog 264 #[.pointer (some ⟨p, 0, none⟩), .string s, .func (.func 265) #[] #[.pointer (some ⟨b, 0, none⟩)]] W (ChRet p m S s.data.toList (At1 b) (fun a n a' W => n = 0 ∧ a' = a ∧ AcB W b a) W)) := fun b W hw hb hl hgb =>
    getch_any b p m S s W (h.no hw) hs hS hgb (by have := h.2.lt; omega) (by have := h.1.lt; omega) hl
  have HC := Lib.hid h
  have HRS := Lib.hid h.2.2
  have hml := h.2.lt
  have hpl := h.1.lt
  clear h hs hS
  go_enter Tryz.func225, Tryz.ntmps225
  go_wp2_with fail
  have hf : Fr No w ((w.alloc (.cells #[.string ⟨#[]⟩, .int .i64 0, .int .i64 0, .int .i64 0] 124)).alloc (.cells #[.string ⟨#[]⟩, .int .i64 0, .int .i64 0, .int .i64 0] 124)) := ((Fr.refl _ _).alloc _).alloc _
  have hb : AcB ((w.alloc (.cells #[.string ⟨#[]⟩, .int .i64 0, .int .i64 0, .int .i64 0] 124)).alloc (.cells #[.string ⟨#[]⟩, .int .i64 0, .int .i64 0, .int .i64 0] 124)) (w.heap.size + 1) noA := by
    have h1 := Blk.new (w.alloc (.cells #[.string ⟨#[]⟩, .int .i64 0, .int .i64 0, .int .i64 0] 124)) 124 #[.string ⟨#[]⟩, .int .i64 0, .int .i64 0, .int .i64 0]
    rw [World.size_alloc] at h1
    exact h1
  have hr : AcB ((w.alloc (.cells #[.string ⟨#[]⟩, .int .i64 0, .int .i64 0, .int .i64 0] 124)).alloc (.cells #[.string ⟨#[]⟩, .int .i64 0, .int .i64 0, .int .i64 0] 124)) w.heap.size noA :=
    Blk.fr (Blk.new w 124 #[.string ⟨#[]⟩, .int .i64 0, .int .i64 0, .int .i64 0]) ((Fr.refl No _).alloc _) (fun h => h)
  have hsz : ((w.alloc (.cells #[.string ⟨#[]⟩, .int .i64 0, .int .i64 0, .int .i64 0] 124)).alloc (.cells #[.string ⟨#[]⟩, .int .i64 0, .int .i64 0, .int .i64 0] 124)).heap.size = w.heap.size + 2 := by simp
  refine (HD.out (w.heap.size + 1) _ hf (by omega) (by omega) hb).mono ?_
  generalize ((w.alloc (.cells #[.string ⟨#[]⟩, .int .i64 0, .int .i64 0, .int .i64 0] 124)).alloc (.cells #[.string ⟨#[]⟩, .int .i64 0, .int .i64 0, .int .i64 0] 124)) = w1 at *
  intro e w2 h
  obtain ⟨V, n, hV, hn, rfl, hc, hF, hb2, hr2⟩ : ∃ V n, getV S s.data.toList = V ∧ n = (if (getA S s.data.toList).isSome then 0 else 6) ∧ e = .returned (.int .i64 n) ∧ ChS w2 p m S ∧ Fr (At1 m) w w2 ∧ AcB w2 (w.heap.size + 1) V ∧ AcB w2 w.heap.size noA := by
    rcases h with ⟨hg, rfl, hc, hf2⟩ | ⟨a, n, a', hg, rfl, hnm, hc, hf2, rfl, rfl, hb2⟩
    · exact ⟨_, _, rfl, rfl, by rw [hg]; rfl, hc, (hf.trans hf2).mono fun _ _ h => False.elim h, by unfold getV; rw [hg]; exact Blk.fr hb hf2 (fun h => h), Blk.fr hr hf2 (fun h => h)⟩
    · refine ⟨_, _, rfl, rfl, by rw [hg]; rfl, ?_, ?_, by unfold getV; rw [hg]; exact hb2, Blk.fr hr hf2 (fun h => ?_)⟩
      · rw [if_pos rfl, putA_self HRS.out (by rw [hnm]; exact hg)] at hc
        exact hc
      · refine (hf.mono (T := At1 m) fun _ _ h => False.elim h).trans' hf2 fun i hi hlt => ?_
        rcases hi with rfl | hi
        · rfl
        · have : i = w.heap.size + 1 := hi
          omega
      · rcases h with h | h
        · omega
        · have : w.heap.size = w.heap.size + 1 := h
          omega
  obtain ⟨nm, hv, st, lim⟩ := V
  obtain ⟨c0, c1, c2, c3⟩ := acb_cells hb2
  obtain ⟨d0, d1, d2, d3⟩ := acb_cells hr2
  have f0 := hr2.frozen 0
  have f1 := hr2.frozen 1
  have f2 := hr2.frozen 2
  have f3 := hr2.frozen 3
  have hrl := hr2.lt
  have HF : Hid (ChS w2 p m S ∧ Fr (At1 m) w w2 ∧ getV S s.data.toList = ⟨nm, hv, st, lim⟩ ∧ n = (if (getA S s.data.toList).isSome then 0 else 6)) := ⟨hc, hF, hV, hn⟩
  clear h hc hF hb2 hr2 hV hn hf hb hr hsz
  go_wp2
  have HW : Fr (At1 w.heap.size) w2 ((((w2.setCell ⟨w.heap.size, 0, none⟩ (.string ⟨nm.toArray⟩)).setCell ⟨w.heap.size, 1, none⟩ (.int .i64 hv)).setCell ⟨w.heap.size, 2, none⟩ (.int .i64 st)).setCell ⟨w.heap.size, 3, none⟩ (.int .i64 lim)) :=
    Fr.setCell (S := At1 w.heap.size) (p := ⟨w.heap.size, 3, none⟩) (Fr.setCell (S := At1 w.heap.size) (p := ⟨w.heap.size, 2, none⟩) (Fr.setCell (S := At1 w.heap.size) (p := ⟨w.heap.size, 1, none⟩) (Fr.setCell (S := At1 w.heap.size) (p := ⟨w.heap.size, 0, none⟩) (Fr.refl _ _) (fun _ => rfl) _) (fun _ => rfl) _) (fun _ => rfl) _) (fun _ => rfl) _
  refine bodyPost_ret (v := .tuple #[.agg #[.string ⟨nm.toArray⟩, .int .i64 hv, .int .i64 st, .int .i64 lim], .int .i64 n]) (by simp [results, Tryz.results225, go_sem, d0, d1, d2, d3, f0, f1, f2, f3]) rfl ?_
  obtain ⟨hc, hF, hV, hn⟩ := HF.out
  refine ⟨by rw [hV, hn]; rfl, hc.fr HW (fun h => by have : p = w.heap.size := h; omega) (fun h => by have : m = w.heap.size := h; omega), hF.trans' HW fun i hi hlt => ?_⟩
  have : i = w.heap.size := hi
  omega
end Go.Proofs.YtcpgamidimfflaaGreat
namespace Go.Proofs.YtcpgamidimfflaaGreat
open Go.RowKit Go.My Go.Maps
set_option linter.unusedSimpArgs false
set_option linter.unusedVariables false
def acC (a : Ac) : List Value := [.string ⟨a.name.toArray⟩, .int .i64 a.hv, .int .i64 a.st, .int .i64 a.lim]
def acs (S : List Ac) : List Value := S.flatMap acC
def NmS (S : List Ac) : Prop := ∀ a ∈ S, a.name.length ≤ 8
theorem getA_mem {S : List Ac} (hr : Rise S) {a : Ac} (h : a ∈ S) : getA S a.name = some a := by
  cases hg : getA S a.name with
  | none => exact absurd rfl (getA_none hg a h)
  | some b =>
    obtain ⟨hb, hn⟩ := getA_some hg
    induction S with
    | nil => cases h
    | cons c r ih =>
      obtain ⟨h1, h2⟩ := List.pairwise_cons.1 hr
      unfold getA at hg
      rw [List.find?_cons] at hg
      by_cases hc : c.name = a.name
      · rw [beq_iff_eq.2 hc] at hg
        injection hg with hg
        subst hg
        rcases List.mem_cons.1 h with rfl | h
        · rfl
        · have h3 := h1 a h
          rw [show c.key = a.key by unfold Ac.key; rw [hc], WideShapes.before_irrefl] at h3
          cases h3
      · rw [beq_eq_false_iff_ne.2 hc] at hg
        rcases List.mem_cons.1 h with rfl | h
        · exact absurd rfl hc
        · have hbr : b ∈ r := List.mem_of_find?_eq_some hg
          exact ih h2 h hg hbr
end Go.Proofs.YtcpgamidimfflaaGreat
namespace Go.Proofs.YtcpgamidimfflaaGreat
open Go.RowKit Go.My Go.Maps
set_option linter.unusedSimpArgs false
set_option linter.unusedVariables false
attribute [local go_sem ↓] Go.wp_at_zero Go.wp_at_succ
end Go.Proofs.YtcpgamidimfflaaGreat
