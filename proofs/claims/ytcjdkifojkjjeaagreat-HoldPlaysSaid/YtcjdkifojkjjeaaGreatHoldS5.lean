/- Steps on holds, done; scripts that come in. What the laws on holds call first. -/
import Derived.Test.YtcjdkifojkjjeaaGreatHoldS4
import Derived.Test.YtcjdkifojkjjeaaGreatOpen
namespace Go.Proofs.YtcjdkifojkjjeaaGreat
open Go.RowKit Go.My Go.Maps
set_option linter.unusedSimpArgs false
set_option linter.unusedVariables false
attribute [local go_sem ↓] Go.wp_at_zero Go.wp_at_succ

def StW (p m ph mh : Nat) (S : List Ac) (H : List Hd) (w : World) (W : World) : Prop := ChS W p m S ∧ HdS W ph mh H ∧ Fr (At2 m mh) w W
theorem no2 {m k : Nat} {a b : World} (h : Fr No a b) : Fr (At2 m k) a b := h.mono fun _ _ h => False.elim h
theorem doesH_any (p m ph mh : Nat) (S : List Ac) (H : List Hd) (o : OpH) (w : World) (hc : ChS w p m S) (hS : St S H) (hh : HdS w ph mh H) (hH : H.length < 1000) (hne : mh ≠ m) (ho : o.ok) :
    Calls Tryz.prog 8 #[.pointer (some ⟨ph, 0, none⟩), .pointer (some ⟨p, 0, none⟩), o.val] w fun e w' => e = .returned (.int .i64 (doesHE S H o)) ∧ StW p m ph mh (doesHS S H o) (doesHH S H o) w w' := by
  refine doesH_gen _ _ o w _ _ (fun hk W hW => ?_) (fun hk W hW => ?_) (fun hk W hW => ?_) (fun hk W hW => ?_)
  · unfold doesHE doesHS doesHH
    rw [hk]
    simp only [if_true]
    exact (put_any p m ph mh S H o.acct o.num o.sum W (hc.no hW) hS.kp.inv (hh.no hW) hH hne ho.2.2.1 ho.2.1 ho.2.2.2.2).mono fun e w' h => ⟨h.ret, h.ch, h.hd, (no2 hW).trans h.fr⟩
  · unfold doesHE doesHS doesHH
    rw [hk]
    simp only [show ¬ ((1 : Int) = 0) by decide, if_false, if_true]
    exact (take_any p m ph mh S H o.acct o.peer o.num o.sum W (hc.no hW) hS.kp.inv hS.kp.good (hh.no hW) hS.pos hH hne ho.2.2.1 ho.2.2.2.1 ho.2.1 ho.2.2.2.2).mono fun e w' h => ⟨h.ret, h.ch, h.hd, (no2 hW).trans h.fr⟩
  · unfold doesHE doesHS doesHH
    rw [hk]
    simp only [show ¬ ((2 : Int) = 0) by decide, show ¬ ((2 : Int) = 1) by decide, if_false, if_true]
    exact (free_any p m ph mh S H o.acct o.num W (hc.no hW) hS.kp.inv (hh.no hW) hS.pos hH hne ho.2.2.1 ho.2.1).mono fun e w' h => ⟨h.ret, h.ch, h.hd, (no2 hW).trans h.fr⟩
  · unfold doesHE doesHS doesHH
    rw [hk]
    simp only [show ¬ ((3 : Int) = 0) by decide, show ¬ ((3 : Int) = 1) by decide, show ¬ ((3 : Int) = 2) by decide, if_false]
    refine (give_any p m S o.acct o.sum W (hc.no hW) ho.2.2.1 hS.kp.inv.len hS.kp.inv.ok ho.2.2.2.2).mono fun e w' h => ⟨h.1, h.2.1, (hh.no hW).at1 (hc.no hW) hne h.2.2, (no2 hW).trans (h.2.2.mono fun _ _ h => .inl h)⟩
theorem doesH_nil (c : Value) (o : OpH) (w : World) (hk3 : kindH o.kind ≠ 3) :
    Calls Tryz.prog 8 #[.pointer none, c, o.val] w fun e w' => e = .returned (.int .i64 1) ∧ Fr No w w' := by
  refine doesH_gen _ _ o w _ _ (fun hk W hW => ?_) (fun hk W hW => ?_) (fun hk W hW => ?_) (fun hk W hW => absurd hk hk3)
  · exact (put_nil c o.num o.sum o.acct W).mono fun e w' h => ⟨h.1, hW.trans h.2⟩
  · exact (take_nil c _ _ _ _ W).mono fun e w' h => ⟨h.1, by rw [h.2]; exact hW⟩
  · exact (free_nil c _ _ W).mono fun e w' h => ⟨h.1, by rw [h.2]; exact hW⟩
theorem doesH_nilC (a : Addr) (o : OpH) (w : World) (hk3 : kindH o.kind ≠ 3) :
    Calls Tryz.prog 8 #[.pointer (some a), .pointer none, o.val] w fun e w' => e = .returned (.int .i64 1) ∧ Fr No w w' := by
  refine doesH_gen _ _ o w _ _ (fun hk W hW => ?_) (fun hk W hW => ?_) (fun hk W hW => ?_) (fun hk W hW => absurd hk hk3)
  · exact (put_nilC a o.num o.sum o.acct W).mono fun e w' h => ⟨h.1, hW.trans h.2⟩
  · exact (take_nilC a _ _ _ _ W).mono fun e w' h => ⟨h.1, by rw [h.2]; exact hW⟩
  · exact (free_nilC a _ _ W).mono fun e w' h => ⟨h.1, by rw [h.2]; exact hW⟩
theorem earlyH_any (A : Option Addr) (n c : Nat) (w : World) (hn : n ≤ c) (hc : c ≤ maxLen) : Calls Tryz.prog 7 #[.slice A n c] w fun e w' => e = .returned (.slice A (min n 120) c) ∧ w' = w := by
  have hx := hc
  unfold maxLen at hx
  have hm : Hid ((min (n : Int) 120).toNat = min n 120) := by show _ = _; omega
  go_enter Tryz.func7, Tryz.ntmps7
  go_wp2
  go_ret
  refine ⟨?_, rfl⟩
  rw [← hm.out]
  rfl

section
open Go.ChangeShapes Go.WideShapes
variable {H : Type} {enc : TypeId × Value → H} {w : World} {base : Nat} {spare : Nat → Bool} {held : Bool}
set_option maxRecDepth 100000 in
theorem open_opH {n : Nat} {cs : List Value} {x : DataW H × List MemPlace} (h : DataW.trod enc Tryz.prog w base spare held n 38 cs = some x) : ∃ o, RdOH cs o := by
  obtain ⟨xs, m, _, _, hl, _, hf⟩ := DataW.trod_struct Tryz.underlying38 h
  have hC : Tryz.prog.cellsOf 38 = 5 := by kernel_rfl
  have C3 : Tryz.prog.cellsOf 3 = 1 := by kernel_rfl
  have CS : Tryz.prog.cellsOf 9 = 1 := by kernel_rfl
  have C2 : Tryz.prog.cellsOf 2 = 1 := by kernel_rfl
  rw [hC] at hl
  match cs, hl with
  | [v0, v1, v2, v3, v4], _ =>
    have f0 : DataW.trod enc Tryz.prog w base spare held m 3 [v0] = xs[0]? := by have := hf 0 _ rfl; simpa [C3] using this
    have f1 : DataW.trod enc Tryz.prog w base spare held m 3 [v1] = xs[1]? := by have := hf 1 _ rfl; simpa [C3] using this
    have f2 : DataW.trod enc Tryz.prog w base spare held m 9 [v2] = xs[2]? := by have := hf 2 _ rfl; simpa [C3, CS] using this
    have f3 : DataW.trod enc Tryz.prog w base spare held m 9 [v3] = xs[3]? := by have := hf 3 _ rfl; simpa [C3, CS] using this
    have f4 : DataW.trod enc Tryz.prog w base spare held m 2 [v4] = xs[4]? := by have := hf 4 _ rfl; simpa [C3, CS, C2] using this
    have g : ∀ i, i < xs.length → ∃ y, xs[i]? = some y := fun i hi => ⟨xs[i], List.getElem?_eq_getElem hi⟩
    have hxl : xs.length = 5 := by assumption
    obtain ⟨y0, e0⟩ := g 0 (by omega)
    obtain ⟨y1, e1⟩ := g 1 (by omega)
    obtain ⟨y2, e2⟩ := g 2 (by omega)
    obtain ⟨y3, e3⟩ := g 3 (by omega)
    obtain ⟨y4, e4⟩ := g 4 (by omega)
    rw [e0] at f0; rw [e1] at f1; rw [e2] at f2; rw [e3] at f3; rw [e4] at f4
    obtain ⟨k, hk, _, wk⟩ := DataW.trod_int Tryz.underlying3 f0
    obtain ⟨k1, hk1, _, wk1⟩ := DataW.trod_int Tryz.underlying3 f1
    obtain ⟨s, hs, _, ws⟩ := DataW.trod_string Tryz.underlying9 f2
    obtain ⟨s1, hs1, _, ws1⟩ := DataW.trod_string Tryz.underlying9 f3
    obtain ⟨z, hz, _, wz⟩ := DataW.trod_int Tryz.underlying2 f4
    simp only [List.cons.injEq, and_true] at hk hk1 hs hs1 hz
    subst hk hk1 hs hs1 hz
    exact ⟨⟨k, k1, s, s1, z⟩, rfl, bounds_i64 wk, bounds_i64 wk1, ws, ws1, bounds_i64 wz⟩
set_option maxRecDepth 100000 in
theorem open_opHv {r : Reach} {b0 : Nat} {v : Value} {d : DataW H} {p : List MemPlace} (hv : Value.okWide Tryz.prog w r b0 38 v)
    (h : DataW.Trod enc Tryz.prog w 0 (fun _ => true) true 38 v d p) : ∃ o : OpH, v = o.val ∧ o.ok := by
  obtain ⟨cs, rfl, hsz⟩ := okWide_struct Tryz.underlying38 hv
  obtain ⟨fuel, hf⟩ := h
  obtain ⟨o, ho, hk⟩ := open_opH hf
  refine ⟨o, ?_, hk⟩
  obtain ⟨l⟩ := cs
  have ho' : l = [Value.int .i64 o.kind, .int .i64 o.num, .string o.acct, .string o.peer, .int .i64 o.sum] := by simpa [Value.cells] using ho
  subst ho'
  rfl
end
end Go.Proofs.YtcjdkifojkjjeaaGreat

namespace Go.Proofs.YtcjdkifojkjjeaaGreat
open Go.RowKit Go.My Go.Maps
set_option linter.unusedSimpArgs false
set_option linter.unusedVariables false
attribute [local go_sem ↓] Go.wp_at_zero Go.wp_at_succ

def aX : Ac := ⟨[97], 30, 20, 0⟩
def S1L : List Ac := [aX, aB 10, aC]
def H1L : List Hd := [⟨1, [97], 20⟩]
theorem v1 : putE abcS [] 1 [97] 20 = 0 ∧ putSS abcS [] 1 [97] 20 = S1L ∧ putHH abcS [] 1 [97] 20 = H1L := by
  have h0 : asideE (aA 30) 20 = 0 := by unfold asideE freeB In64 aA; simp
  have h1 : getA abcS [97] = some (aA 30) := rfl
  have h2 : asdE abcS [97] 20 = 0 := by unfold asdE actE; rw [h1]; exact h0
  have h3 : putE abcS [] 1 [97] 20 = 0 := by
    unfold putE
    rw [if_neg (by omega), if_neg (by decide), if_neg (by simp [ofH])]
    exact h2
  refine ⟨h3, ?_, ?_⟩
  · unfold putSS asdS actS
    rw [if_pos h3, h1]
    simp only
    rw [if_pos h0]
    unfold asideA
    rw [if_pos h0]
    rfl
  · unfold putHH
    rw [if_pos h3]
    rfl
theorem v2 : putE S1L H1L 2 [97] 11 = 9 := by
  have h0 : asideE aX 11 = 9 := by unfold asideE freeB In64 aX; simp
  have h1 : getA S1L [97] = some aX := rfl
  unfold putE
  rw [if_neg (by omega), if_neg (by decide), if_neg (by decide)]
  unfold asdE actE
  rw [h1]
  exact h0
theorem v2' : putSS S1L H1L 2 [97] 11 = S1L ∧ putHH S1L H1L 2 [97] 11 = H1L := by
  unfold putSS putHH
  rw [v2]
  exact ⟨rfl, rfl⟩
theorem v3 : takeE S1L H1L ⟨#[97]⟩ 1 ⟨#[99]⟩ 4 = 0 ∧ (∃ T, takeSS S1L H1L ⟨#[97]⟩ 1 ⟨#[99]⟩ 4 = T ∧ getV T [97] = ⟨[97], 26, 0, 0⟩ ∧ (getA T [97]).isSome = true) ∧ takeHH S1L H1L ⟨#[97]⟩ 1 ⟨#[99]⟩ 4 = [] := by
  have g0 : getH H1L (⟨#[97]⟩ : ByteArray).data.toList 1 = some ⟨1, [97], 20⟩ := by decide
  have h0 : asideE aX (-20) = 0 := by unfold asideE freeB In64 aX; simp
  have h1 : getA S1L (⟨#[97]⟩ : ByteArray).data.toList = some aX := rfl
  have h2 : asdE S1L (⟨#[97]⟩ : ByteArray).data.toList (-20) = 0 := by unfold asdE actE; rw [h1]; exact h0
  have h3 : asdS S1L (⟨#[97]⟩ : ByteArray).data.toList (-20) = abcS := by
    unfold asdS actS
    rw [h1]
    simp only
    rw [if_pos h0]
    unfold asideA
    rw [if_pos h0]
    rfl
  have e1 : giveE (aA 30) 4 = 0 := by unfold giveE freeB In64 aA; simp
  have e2 : giveE aC (-4) = 0 := by unfold giveE freeB In64 aC; simp
  have k1 : legE abcS ⟨⟨#[97]⟩, -4⟩ = 0 := by
    unfold legE actE
    rw [if_neg (by decide), if_neg (by decide)]
    exact e1
  have k2 : legS abcS ⟨⟨#[97]⟩, -4⟩ = [aA 26, aB 10, aC] := by
    unfold legS
    rw [if_pos k1]
    unfold actS
    show (match getA abcS [97] with | none => abcS | some a => if giveE a 4 = 0 then putA (giveA a 4) abcS else abcS) = _
    rw [show getA abcS [97] = some (aA 30) from rfl]
    simp only
    rw [if_pos e1]
    unfold giveA
    rw [if_pos e1]
    rfl
  have k3 : legE [aA 26, aB 10, aC] ⟨⟨#[99]⟩, 4⟩ = 0 := by
    unfold legE actE
    rw [if_neg (by decide), if_neg (by decide)]
    exact e2
  have k4 : legsE abcS (legsT ⟨#[97]⟩ ⟨#[99]⟩ 4) = 0 := by
    unfold legsT
    rw [legsE_cons, if_pos k1, k2, legsE_cons, if_pos k3]
    rfl
  have k5 : checkE abcS (legsT ⟨#[97]⟩ ⟨#[99]⟩ 4) = 0 := by
    unfold checkE
    rw [if_neg (by decide), if_pos (by decide)]
    exact k4
  have k6 : makeS abcS (legsT ⟨#[97]⟩ ⟨#[99]⟩ 4) = legS [aA 26, aB 10, aC] ⟨⟨#[99]⟩, 4⟩ := by
    unfold makeS
    rw [if_pos k5]
    unfold legsT
    rw [legsS_cons, if_pos k1, k2, legsS_cons, if_pos k3]
    rfl
  have k7 : takeE S1L H1L ⟨#[97]⟩ 1 ⟨#[99]⟩ 4 = 0 := by
    unfold takeE
    rw [g0]
    simp only
    rw [if_neg (by omega), if_pos h2, h3]
    exact k5
  refine ⟨k7, ⟨_, rfl, ?_⟩, ?_⟩
  · unfold takeSS
    rw [if_pos k7, g0]
    show getV (makeS (asdS S1L (⟨#[97]⟩ : ByteArray).data.toList (-20)) _) [97] = _ ∧ _
    rw [h3, k6]
    have : getA (legS [aA 26, aB 10, aC] ⟨⟨#[99]⟩, 4⟩) [97] = some ⟨[97], 26, 0, 0⟩ := by
      rw [leg_other _ _ [97] (by decide)]
      rfl
    unfold getV
    show (getA (legS [aA 26, aB 10, aC] ⟨⟨#[99]⟩, 4⟩) [97]).getD noA = _ ∧ (getA (legS [aA 26, aB 10, aC] ⟨⟨#[99]⟩, 4⟩) [97]).isSome = true
    rw [this]
    exact ⟨rfl, rfl⟩
  · unfold takeHH
    rw [if_pos k7]
    decide

theorem st1 : St S1L H1L := by
  have h := stB.put 1 20 [97] (by omega)
  rw [v1.2.1, v1.2.2] at h
  exact h
set_option maxRecDepth 100000 in
set_option maxHeartbeats 8000000 in
theorem lives8 (w : World) : Calls Tryz.prog 4 #[] w (RetTrue w) := by
  have HP1 : Hid (∀ p m ph mh W, ChS W p m abcS → HdS W ph mh [] → mh ≠ m → Calls Tryz.prog 16 #[.pointer (some ⟨ph, 0, none⟩), .pointer (some ⟨p, 0, none⟩), .agg #[.int .i64 1, .string ⟨#[97]⟩, .int .i64 20]] W (HRet p m ph mh 0 S1L H1L W)) := fun p m ph mh W h1 h2 h3 => by
    have h := put_any p m ph mh abcS [] ⟨#[97]⟩ 1 20 W h1 kpB.inv h2 (by simp) h3 (by decide) (by unfold In64; omega) (by unfold In64; omega)
    rw [show (⟨#[97]⟩ : ByteArray).data.toList = [97] from rfl, v1.1, v1.2.1, v1.2.2] at h
    exact h
  have HP2 : Hid (∀ p m ph mh W, ChS W p m S1L → HdS W ph mh H1L → mh ≠ m → Calls Tryz.prog 16 #[.pointer (some ⟨ph, 0, none⟩), .pointer (some ⟨p, 0, none⟩), .agg #[.int .i64 2, .string ⟨#[97]⟩, .int .i64 11]] W (HRet p m ph mh 9 S1L H1L W)) := fun p m ph mh W h1 h2 h3 => by
    have h := put_any p m ph mh S1L H1L ⟨#[97]⟩ 2 11 W h1 st1.kp.inv h2 (by simp [H1L]) h3 (by decide) (by unfold In64; omega) (by unfold In64; omega)
    rw [show (⟨#[97]⟩ : ByteArray).data.toList = [97] from rfl, v2'.1, v2'.2, v2] at h
    exact h
  obtain ⟨v31, ⟨T, v32, v33, v34⟩, v35⟩ := v3
  have HTK : Hid (∀ p m ph mh W, ChS W p m S1L → HdS W ph mh H1L → mh ≠ m → Calls Tryz.prog 17 #[.pointer (some ⟨ph, 0, none⟩), .pointer (some ⟨p, 0, none⟩), .string ⟨#[97]⟩, .int .i64 1, .string ⟨#[99]⟩, .int .i64 4] W (HRet p m ph mh 0 T [] W)) := fun p m ph mh W h1 h2 h3 => by
    have h := take_any p m ph mh S1L H1L ⟨#[97]⟩ ⟨#[99]⟩ 1 4 W h1 st1.kp.inv st1.kp.good h2 st1.pos (by simp [H1L]) h3 (by decide) (by decide) (by unfold In64; omega) (by unfold In64; omega)
    rw [v31, v32, v35] at h
    exact h
  have stT : St T [] := by
    have h := st1.take ⟨#[97]⟩ ⟨#[99]⟩ 1 4
    rw [v32, v35] at h
    exact h
  have HGT : Hid (∀ p m W, ChS W p m T → Calls Tryz.prog 18 #[.pointer (some ⟨p, 0, none⟩), .string ⟨#[97]⟩] W fun e w' => e = .returned (.tuple #[.agg #[.string ⟨#[97]⟩, .int .i64 26, .int .i64 0, .int .i64 0], .int .i64 0]) ∧ ChS w' p m T ∧ Fr (At1 m) W w') := fun p m W hW => by
    refine (get_any p m T ⟨#[97]⟩ W hW (by decide) stT.kp.inv.len).mono fun e w' h => ⟨?_, h.2⟩
    rw [h.1, show (⟨#[97]⟩ : ByteArray).data.toList = [97] from rfl, v33, v34]
    rfl
  have HALL : Hid (∀ p m W, HdS W p m [] → Calls Tryz.prog 11 #[.pointer (some ⟨p, 0, none⟩)] W fun e w' => ∃ A c, e = .returned (.slice A 0 c) ∧ Fr No W w') := fun p m W hW => by
    refine (allH_any p m [] W hW (by simp)).mono ?_
    rintro e w' ⟨v, rfl, ho, hf, _⟩
    obtain ⟨A, c, rfl, _, _⟩ := ho.form
    exact ⟨A, c, rfl, fr_at_none hf⟩
  have HBEG := Lib.hid (begin_any w)
  have HNEW := Lib.hid (fun W => newH_any W)
  clear v31 v32 v33 v34 v35 stT
  go_enter Tryz.func4, Tryz.ntmps4
  go_wp2_with fail
  refine HBEG.out.mono ?_
  rintro e w1 ⟨p, m, q, rfl, hc1, -, hf1, hp1, hm1, -⟩
  go_wp2_with fail
  refine (HNEW.out _).mono ?_
  rintro e w2 ⟨ph, mh, rfl, hh2, hf2, hp2, hm2⟩
  have hmh : mh ≠ m := by have := hc1.2.lt; omega
  have hc2 := hc1.no hf2
  have HF2 := Lib.hid (hf1.trans hf2)
  go_wp2_with fail
  refine (HP1.out _ _ _ _ _ hc2 hh2 hmh).mono ?_
  rintro e w3 ⟨rfl, hc3, hh3, hf3⟩
  go_wp2_with fail
  refine (HP2.out _ _ _ _ _ hc3 hh3 hmh).mono ?_
  rintro e w4 ⟨rfl, hc4, hh4, hf4⟩
  go_wp2_with fail
  refine (HTK.out _ _ _ _ _ hc4 hh4 hmh).mono ?_
  rintro e w5 ⟨rfl, hc5, hh5, hf5⟩
  go_wp2_with fail
  refine (HGT.out _ _ _ hc5).mono ?_
  rintro e w6 ⟨rfl, hc6, hf6⟩
  have hh6 := hh5.at1 hc5 hmh hf6
  have HF6 : Hid (Fr No w w6) := by
    have h1 := ((hf3.trans hf4).trans hf5).trans (hf6.mono (T := At2 m mh) fun _ _ h => .inl h)
    refine HF2.out.trans' h1 fun i hi hlt => ?_
    have h3 := hf1.size
    rcases hi with rfl | rfl <;> omega
  have HL := Lib.hid (fun W (h : Fr No w6 W) => HALL.out ph mh W (hh6.no h))
  clear hc1 hc2 hc3 hc4 hc5 hc6 hh2 hh3 hh4 hh5 hh6 hf1 hf2 hf3 hf4 hf5 hf6 HF2 HBEG HNEW HP1 HP2 HTK HGT HALL hp1 hm1 hp2 hm2 hmh
  go_wp2_with (go_at_call 11; refine (HL.out _ ?_).mono ?_; rotate_left; rintro e w7 ⟨A7, c7, rfl, hf7⟩)
  · go_ret
    exact ⟨rfl, ((HF6.out.alloc _).trans hf7).belowNo⟩
  · exact (Fr.refl _ _).alloc _
end Go.Proofs.YtcjdkifojkjjeaaGreat
