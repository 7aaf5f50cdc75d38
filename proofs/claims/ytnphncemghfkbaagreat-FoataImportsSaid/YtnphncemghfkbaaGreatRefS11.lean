/- The document's own Read of orders: what it reads, and the walk. -/
import Derived.Test.YtnphncemghfkbaaGreatRefR11
import Derived.Test.YtnphncemghfkbaaGreatSet10
import Derived.Test.YtnphncemghfkbaaGreatQ15
import Derived.Test.YtnphncemghfkbaaGreatQ05
import Derived.Test.YtnphncemghfkbaaGreatRefO3
namespace Go.Proofs.YtnphncemghfkbaaGreat
open Go.RowKit Go.My Go.Maps
set_option linter.unusedSimpArgs false
set_option linter.unusedVariables false
attribute [local go_sem ↓] Go.wp_at_zero Go.wp_at_succ

theorem rr_int {lo hi : Int} {l : List UInt8} {e : Nat} (h : (rrange lo hi l e).2.1 = 0) : rrange lo hi l e = rint l e := by
  have h0 := rrange_stick lo hi l e h
  subst h0
  rw [rint_num l 0 (by omega)]
  exact (rrange_ok lo hi l 0 h).1
theorem int_rr {lo hi : Int} {l : List UInt8} {e : Nat} (h : (rint l e).2.1 = 0) (h1 : lo ≤ (rint l e).1) (h2 : (rint l e).1 ≤ hi) : rrange lo hi l e = rint l e := by
  have h0 : e = 0 := rrange_stick _ _ l e h
  subst h0
  rw [rint_num l 0 (by omega)] at h h1 h2 ⊢
  unfold rrange
  rw [if_neg (by omega), if_neg (by omega)]
/-- the fields, one behind the other, within their bounds -/
def rawQ (l : List UInt8) : Raw :=
  let a := rrange 0 9 l 0
  let b := rrange 1 999 a.2.2 a.2.1
  let c := rrange 1 7 b.2.2 b.2.1
  let d := rtext 8 c.2.2 c.2.1
  let p := rtext 8 d.2.2 d.2.1
  let s := rnum p.2.2 p.2.1
  let n := rrange 0 6 s.2.2 s.2.1
  let g := rlegs n.1.toNat n.2.2 n.2.1
  let x := rrange 0 1000 g.2.2 g.2.1
  let h := rrange 0 9999 x.2.2 x.2.1
  let t := rtext 20 h.2.2 h.2.1
  ⟨⟨a.1, b.1, c.1, ⟨d.1.toArray⟩, ⟨p.1.toArray⟩, s.1, g.1, x.1, h.1, ⟨t.1.toArray⟩⟩, t.2.1, t.2.2⟩
theorem rawQ_eq {l : List UInt8} (he : (rawQ l).e = 0) : rawQ l = rawO l := by
  unfold rawQ rawO at *
  simp only at he ⊢
  generalize hA : rrange 0 9 l 0 = a at *
  generalize hB : rrange 1 999 a.2.2 a.2.1 = b at *
  generalize hC : rrange 1 7 b.2.2 b.2.1 = c at *
  generalize hD : rtext 8 c.2.2 c.2.1 = d at *
  generalize hP : rtext 8 d.2.2 d.2.1 = p at *
  generalize hS : rnum p.2.2 p.2.1 = s at *
  generalize hN : rrange 0 6 s.2.2 s.2.1 = n at *
  generalize hG : rlegs n.1.toNat n.2.2 n.2.1 = g at *
  generalize hX : rrange 0 1000 g.2.2 g.2.1 = x at *
  generalize hH : rrange 0 9999 x.2.2 x.2.1 = h at *
  generalize hT : rtext 20 h.2.2 h.2.1 = t at *
  have sh : h.2.1 = 0 := (rtext_stick 20 _ _ (by rw [hT]; exact he)).2
  have sx : x.2.1 = 0 := rrange_stick _ _ _ _ (by rw [hH]; exact sh)
  have sg : g.2.1 = 0 := rrange_stick _ _ _ _ (by rw [hX]; exact sx)
  have sn : n.2.1 = 0 := rlegs_stick _ _ _ (by rw [hG]; exact sg)
  have ss : s.2.1 = 0 := rrange_stick _ _ _ _ (by rw [hN]; exact sn)
  have sp : p.2.1 = 0 := rnum_stick _ _ (by rw [hS]; exact ss)
  have sd : d.2.1 = 0 := (rtext_stick 8 _ _ (by rw [hP]; exact sp)).2
  have sc : c.2.1 = 0 := (rtext_stick 8 _ _ (by rw [hD]; exact sd)).2
  have sb : b.2.1 = 0 := rrange_stick _ _ _ _ (by rw [hC]; exact sc)
  have sa : a.2.1 = 0 := rrange_stick _ _ _ _ (by rw [hB]; exact sb)
  rw [rr_int (by rw [hA]; exact sa)] at hA
  rw [rr_int (by rw [hB]; exact sb)] at hB
  rw [rr_int (by rw [hC]; exact sc)] at hC
  rw [rr_int (by rw [hX]; exact sx)] at hX
  rw [rr_int (by rw [hH]; exact sh)] at hH
  simp only [hA, hB, hC, hD, hP, hS, hN, hG, hX, hH, hT]
theorem rawO_q {l : List UInt8} (he : (rawO l).e = 0) (hr : rightO (rawO l).o = true) : rawQ l = rawO l := by
  unfold rawQ rawO at *
  simp only at he hr ⊢
  generalize hA : rint l 0 = a at *
  generalize hB : rint a.2.2 a.2.1 = b at *
  generalize hC : rint b.2.2 b.2.1 = c at *
  generalize hD : rtext 8 c.2.2 c.2.1 = d at *
  generalize hP : rtext 8 d.2.2 d.2.1 = p at *
  generalize hS : rnum p.2.2 p.2.1 = s at *
  generalize hN : rrange 0 6 s.2.2 s.2.1 = n at *
  generalize hG : rlegs n.1.toNat n.2.2 n.2.1 = g at *
  generalize hX : rint g.2.2 g.2.1 = x at *
  generalize hH : rint x.2.2 x.2.1 = h at *
  generalize hT : rtext 20 h.2.2 h.2.1 = t at *
  have sh : h.2.1 = 0 := (rtext_stick 20 _ _ (by rw [hT]; exact he)).2
  have sx : x.2.1 = 0 := rrange_stick _ _ _ _ (by rw [show rrange _ _ _ _ = h from hH]; exact sh)
  have sg : g.2.1 = 0 := rrange_stick _ _ _ _ (by rw [show rrange _ _ _ _ = x from hX]; exact sx)
  have sn : n.2.1 = 0 := rlegs_stick _ _ _ (by rw [hG]; exact sg)
  have ss : s.2.1 = 0 := rrange_stick _ _ _ _ (by rw [hN]; exact sn)
  have sp : p.2.1 = 0 := rnum_stick _ _ (by rw [hS]; exact ss)
  have sd : d.2.1 = 0 := (rtext_stick 8 _ _ (by rw [hP]; exact sp)).2
  have sc : c.2.1 = 0 := (rtext_stick 8 _ _ (by rw [hD]; exact sd)).2
  have sb : b.2.1 = 0 := rrange_stick _ _ _ _ (by rw [show rrange _ _ _ _ = c from hC]; exact sc)
  have sa : a.2.1 = 0 := rrange_stick _ _ _ _ (by rw [show rrange _ _ _ _ = b from hB]; exact sb)
  unfold rightO idB perB holdB at hr
  simp only [Bool.and_eq_true, decide_eq_true_eq] at hr
  obtain ⟨k1, k2, ⟨i1, i2, i3, i4⟩, _, _, _, _, hp, hh, _⟩ := hr
  have px : 0 ≤ x.1 ∧ x.1 ≤ 1000 := by
    split at hp
    · rw [Bool.and_eq_true, decide_eq_true_eq, decide_eq_true_eq] at hp; omega
    · rw [beq_iff_eq] at hp; omega
  have ph : 0 ≤ h.1 ∧ h.1 ≤ 9999 := by
    split at hh
    · rw [Bool.and_eq_true, decide_eq_true_eq, decide_eq_true_eq] at hh; omega
    · rw [beq_iff_eq] at hh; omega
  have qA : rrange 0 9 l 0 = a := (int_rr (by rw [hA]; exact sa) (by rw [hA]; omega) (by rw [hA]; omega)).trans hA
  have qB : rrange 1 999 a.2.2 a.2.1 = b := (int_rr (by rw [hB]; exact sb) (by rw [hB]; omega) (by rw [hB]; omega)).trans hB
  have qC : rrange 1 7 b.2.2 b.2.1 = c := (int_rr (by rw [hC]; exact sc) (by rw [hC]; omega) (by rw [hC]; omega)).trans hC
  have qX : rrange 0 1000 g.2.2 g.2.1 = x := (int_rr (by rw [hX]; exact sx) (by rw [hX]; omega) (by rw [hX]; omega)).trans hX
  have qH : rrange 0 9999 x.2.2 x.2.1 = h := (int_rr (by rw [hH]; exact sh) (by rw [hH]; omega) (by rw [hH]; omega)).trans hH
  simp only [qA, qB, qC, hD, hP, hS, hN, hG, qX, qH, hT]
theorem readQ_yes {l : List UInt8} (he : (rawQ l).e = 0) (hl : (rawQ l).l = []) (hr : rightO (rawQ l).o = true) : readO l = (rawQ l).o ∧ readE l = 0 := by
  have h := rawQ_eq he
  have hb : readB l = true := by
    unfold readB
    rw [← h, he, hl, hr]
    rfl
  unfold readO readE
  rw [if_pos hb, if_pos hb, h]
  exact ⟨rfl, rfl⟩
theorem readQ_no {l : List UInt8} (hn : ¬ ((rawQ l).e = 0 ∧ (rawQ l).l = [] ∧ rightO (rawQ l).o = true)) : readO l = noO ∧ readE l = 3 := by
  have hb : ¬ readB l = true := fun hb => by
    unfold readB at hb
    rw [Bool.and_eq_true, decide_eq_true_eq] at hb
    obtain ⟨h1, h2⟩ := nil_of_done hb.1
    have h := rawO_q h1 hb.2
    rw [h] at hn
    exact hn ⟨h1, h2, hb.2⟩
  unfold readO readE
  rw [if_neg hb, if_neg hb]
  exact ⟨rfl, rfl⟩
theorem rr_in64 (lo hi : Int) (l : List UInt8) (e : Nat) : In64 (rrange lo hi l e).1 := by
  have h := rnum_bd l e
  unfold rrange
  split
  · exact ⟨by show (-9223372036854775808 : Int) ≤ 0; omega, by show (0 : Int) ≤ 9223372036854775807; omega⟩
  · split
    · exact ⟨by show (-9223372036854775808 : Int) ≤ 0; omega, by show (0 : Int) ≤ 9223372036854775807; omega⟩
    · exact h
theorem RdR.no {F : Nat → Prop} {w w' : World} {p : Nat} {l : List UInt8} {e : Nat} (h : RdR F w p l e) (hf : Fr No w w') : RdR F w' p l e := h.fr hf (fun h => h) (fun _ _ h => h)
theorem RdR.lt {F : Nat → Prop} {w : World} {p : Nat} {l : List UInt8} {e : Nat} (h : RdR F w p l e) : p < w.heap.size := by
  obtain ⟨A, c, hb, _⟩ := h
  exact hb.lt
/-- the loop over the legs -/
structure RqL (F : Nat → Prop) (w w8 : World) (p bo : Nat) (x1 x2 x3 : Int) (s1 s2 : ByteArray) (x4 : Int) (N : Nat) (res : List Lg × Nat × List UInt8) (j : Nat) (L : List Lg) (l : List UInt8) (e : Nat) (v : Value) (wr : World) : Prop where
  le : j ≤ N
  len : L.length = j
  rdr : RdR F wr p l e
  err : e < 5
  blk : Blk wr bo 47 #[.int .i64 x1, .int .i64 x2, .int .i64 x3, .string s1, .string s2, .int .i64 x4, v, .int .i64 0, .int .i64 0, .string ⟨#[]⟩]
  own : Own wr 92 2 v j (lgs L)
  new : Newer w8.heap.size none v.ownBlock
  res : res = (L ++ (rlegs (N - j) l e).1, (rlegs (N - j) l e).2)
  fr : Fr No w wr
  two : Blk wr w.heap.size 47 #[.int .i64 0, .int .i64 0, .int .i64 0, .string ⟨#[]⟩, .string ⟨#[]⟩, .int .i64 0, .slice none 0 0, .int .i64 0, .int .i64 0, .string ⟨#[]⟩]
  size : w8.heap.size ≤ wr.heap.size
def RqRel (F : Nat → Prop) (w w8 : World) (p bo : Nat) (x1 x2 x3 : Int) (s1 s2 : ByteArray) (x4 : Int) (N : Nat) (res : List Lg × Nat × List UInt8) (iv : Value) (wr : World) : Prop :=
  ∃ j L l e v, iv = .int .i64 (j : Nat) ∧ RqL F w w8 p bo x1 x2 x3 s1 s2 x4 N res j L l e v wr

set_option maxRecDepth 100000 in
set_option maxHeartbeats 2000000 in
theorem refread_any (F : Nat → Prop) (A : Option Addr) (n c : Nat) (l : List UInt8) (w : World) (hn : l.length = n) (hr : Rd w F 1 A n (bs l)) (hF : ∀ k, F k → k < w.heap.size) (hc : n ≤ c) (hm : c ≤ maxLen) (hsz : n ≤ 1000000) :
    Calls Tryz.prog 53 #[.slice A n c] w (RetOd (readO l) (readE l) w) := by
  subst hn
  have HRT : Hid (∀ o v W, o.ok → Own W 92 2 v o.legs.length (lgs o.legs) → (∀ g ∈ o.legs, g.ok) → o.legs.length ≤ 100 → Calls Tryz.prog 66 #[o.val v] W fun e w' => e = .returned (.bool (rightO o)) ∧ Fr No W w') := fun o v W ho hv hg h100 => by
    obtain ⟨A', c', rfl, h1, h2⟩ := hv.form
    exact refrightO_any _ o _ W ho ⟨A', c', lgs o.legs, rfl, hv.rd, lgs_each _ hg, h1, h2⟩ h100
  have HYES := Lib.hid (readQ_yes (l := l))
  have HNO := Lib.hid (readQ_no (l := l))
  have hb2 := (Blk.new w 47 #[.int .i64 0, .int .i64 0, .int .i64 0, .string ⟨#[]⟩, .string ⟨#[]⟩, .int .i64 0, .slice none 0 0, .int .i64 0, .int .i64 0, .string ⟨#[]⟩]).alloc (.cells #[.slice A l.length c, .int .i64 0] 75)
  have hbp := Blk.new (w.alloc (.cells #[.int .i64 0, .int .i64 0, .int .i64 0, .string ⟨#[]⟩, .string ⟨#[]⟩, .int .i64 0, .slice none 0 0, .int .i64 0, .int .i64 0, .string ⟨#[]⟩] 47)) 75 #[.slice A l.length c, .int .i64 0]
  rw [World.size_alloc] at hbp
  have hf2 : Fr No w ((w.alloc (.cells #[.int .i64 0, .int .i64 0, .int .i64 0, .string ⟨#[]⟩, .string ⟨#[]⟩, .int .i64 0, .slice none 0 0, .int .i64 0, .int .i64 0, .string ⟨#[]⟩] 47)).alloc (.cells #[.slice A l.length c, .int .i64 0] 75)) := ((Fr.refl _ _).alloc _).alloc _
  go_enter Tryz.func53, Tryz.ntmps53
  go_upto_region 2 with (fail)
  generalize hw2 : ((w.alloc (.cells #[.int .i64 0, .int .i64 0, .int .i64 0, .string ⟨#[]⟩, .string ⟨#[]⟩, .int .i64 0, .slice none 0 0, .int .i64 0, .int .i64 0, .string ⟨#[]⟩] 47)).alloc (.cells #[.slice A l.length c, .int .i64 0] 75)) = w2 at *
  have hr0 : RdR F w2 (w.heap.size + 1) l 0 := ⟨A, c, hbp, hr.fr (by omega) hf2 (fun _ _ _ h => h), hc, hm, hsz, fun h => by have := hF _ h; omega⟩
  have HB2 := Lib.hid hb2
  have HFK := Lib.hid hF
  generalize hp : w.heap.size + 1 = p at *
  have HP : Hid (w.heap.size < p) := by show _ < _; omega
  have HT : Hid (∀ {a b : World} {i : Nat}, Fr No w a → Fr (At1 i) a b → w.heap.size < i → Fr No w b) := fun h1 h2 h3 => h1.trans' h2 (fun j hj hlt => by have : j = _ := hj; omega)
  clear hw2 hb2 hbp hr hF hc hm hsz hp
  go_wp2_with fail
  refine (rRange_at F p 0 9 l 0 _ hr0 (by omega)).mono ?_
  rintro e u1 ⟨rfl, hr1, hf1⟩
  unfold two
  have he1 : (rrange 0 9 l 0).2.1 < 5 := rrange_err _ _ _ _ (by omega)
  generalize hq1 : rrange 0 9 l 0 = a at *
  have HQ1 := Lib.hid hq1
  have HTW1 := Lib.hid (HB2.out.fr hf1 (fun h => by have : w.heap.size = p := h; have := HP.out; omega))
  have hw1 : Fr No w u1 := HT.out hf2 hf1 HP.out
  clear hq1 hf1 HB2 hr0  hf2
  go_wp2_with fail
  refine (rRange_at F p 1 999 a.2.2 a.2.1 _ hr1 he1).mono ?_
  rintro e u2 ⟨rfl, hr2, hf2⟩
  unfold two
  have he2 : (rrange 1 999 a.2.2 a.2.1).2.1 < 5 := rrange_err _ _ _ _ he1
  generalize hq2 : rrange 1 999 a.2.2 a.2.1 = b at *
  have HQ2 := Lib.hid hq2
  have HTW2 := Lib.hid (HTW1.out.fr hf2 (fun h => by have : w.heap.size = p := h; have := HP.out; omega))
  have hw2 : Fr No w u2 := HT.out hw1 hf2 HP.out
  clear hq2 hf2 HTW1 hr1 he1 hw1
  go_wp2_with fail
  refine (rRange_at F p 1 7 b.2.2 b.2.1 _ hr2 he2).mono ?_
  rintro e u3 ⟨rfl, hr3, hf3⟩
  unfold two
  have he3 : (rrange 1 7 b.2.2 b.2.1).2.1 < 5 := rrange_err _ _ _ _ he2
  generalize hq3 : rrange 1 7 b.2.2 b.2.1 = k at *
  have HQ3 := Lib.hid hq3
  have HTW3 := Lib.hid (HTW2.out.fr hf3 (fun h => by have : w.heap.size = p := h; have := HP.out; omega))
  have hw3 : Fr No w u3 := HT.out hw2 hf3 HP.out
  clear hq3 hf3 HTW2 hr2 he2 hw2
  go_wp2_with fail
  refine (rText_at F p 8 k.2.2 k.2.1 _ hr3 he3).mono ?_
  rintro e u4 ⟨rfl, hr4, hf4⟩
  unfold twoS
  have he4 : (rtext 8 k.2.2 k.2.1).2.1 < 5 := rtext_err _ _ _ he3
  generalize hq4 : rtext 8 k.2.2 k.2.1 = d at *
  have HQ4 := Lib.hid hq4
  have HTW4 := Lib.hid (HTW3.out.fr hf4 (fun h => by have : w.heap.size = p := h; have := HP.out; omega))
  have hw4 : Fr No w u4 := HT.out hw3 hf4 HP.out
  clear hq4 hf4 HTW3 hr3 he3 hw3
  go_wp2_with fail
  refine (rText_at F p 8 d.2.2 d.2.1 _ hr4 he4).mono ?_
  rintro e u5 ⟨rfl, hr5, hf5⟩
  unfold twoS
  have he5 : (rtext 8 d.2.2 d.2.1).2.1 < 5 := rtext_err _ _ _ he4
  generalize hq5 : rtext 8 d.2.2 d.2.1 = pp at *
  have HQ5 := Lib.hid hq5
  have HTW5 := Lib.hid (HTW4.out.fr hf5 (fun h => by have : w.heap.size = p := h; have := HP.out; omega))
  have hw5 : Fr No w u5 := HT.out hw4 hf5 HP.out
  clear hq5 hf5 HTW4 hr4 he4 hw4
  go_wp2_with fail
  refine (rNum_at F p pp.2.2 pp.2.1 _ hr5 he5).mono ?_
  rintro e u6 ⟨rfl, hr6, hf6⟩
  unfold two
  have he6 : (rnum pp.2.2 pp.2.1).2.1 < 5 := rnum_err _ _ he5
  generalize hq6 : rnum pp.2.2 pp.2.1 = s at *
  have HQ6 := Lib.hid hq6
  have HTW6 := Lib.hid (HTW5.out.fr hf6 (fun h => by have : w.heap.size = p := h; have := HP.out; omega))
  have hw6 : Fr No w u6 := HT.out hw5 hf6 HP.out
  clear hq6 hf6 HTW5 hr5 he5 hw5
  go_wp2_with fail
  refine (rRange_at F p 0 6 s.2.2 s.2.1 _ hr6 he6).mono ?_
  rintro e u7 ⟨rfl, hr7, hf7⟩
  unfold two
  have he7 : (rrange 0 6 s.2.2 s.2.1).2.1 < 5 := rrange_err _ _ _ _ he6
  generalize hq7 : rrange 0 6 s.2.2 s.2.1 = g at *
  have HQ7 := Lib.hid hq7
  have HTW7 := Lib.hid (HTW6.out.fr hf7 (fun h => by have : w.heap.size = p := h; have := HP.out; omega))
  have hw7 : Fr No w u7 := HT.out hw6 hf7 HP.out
  clear hq7 hf7 HTW6 hr6 he6 hw6
  have hbo := Blk.new u7 47 #[.int .i64 a.1, .int .i64 b.1, .int .i64 k.1, .string ⟨d.1.toArray⟩, .string ⟨pp.1.toArray⟩, .int .i64 s.1, .slice none 0 0, .int .i64 0, .int .i64 0, .string ⟨#[]⟩]
  have hf8 : Fr No u7 (u7.alloc (.cells #[.int .i64 a.1, .int .i64 b.1, .int .i64 k.1, .string ⟨d.1.toArray⟩, .string ⟨pp.1.toArray⟩, .int .i64 s.1, .slice none 0 0, .int .i64 0, .int .i64 0, .string ⟨#[]⟩] 47)) := (Fr.refl _ _).alloc _
  have HBOp : Hid (p < u7.heap.size) := hr7.lt
  have HGV : Hid (0 ≤ g.1 ∧ g.1 ≤ 6) := by
    show _ ∧ _
    rw [← HQ7.out]
    exact rrange_val 0 6 _ _ (by omega) (by omega)
  obtain ⟨N, hN⟩ : ∃ N : Nat, g.1 = (N : Int) := ⟨g.1.toNat, by have := HGV.out; omega⟩
  have HN : Hid (g.1 = (N : Int)) := hN
  have HN6 : Hid (N ≤ 6) := by have := HGV.out; show _ ≤ _; omega
  rw [hN]
  clear hN
  go_upto_region 10 with (fail)
  have hs8 : u7.heap.size < (u7.alloc (.cells #[.int .i64 a.1, .int .i64 b.1, .int .i64 k.1, .string ⟨d.1.toArray⟩, .string ⟨pp.1.toArray⟩, .int .i64 s.1, .slice none 0 0, .int .i64 0, .int .i64 0, .string ⟨#[]⟩] 47)).heap.size := by simp
  generalize hw8 : u7.alloc (.cells #[.int .i64 a.1, .int .i64 b.1, .int .i64 k.1, .string ⟨d.1.toArray⟩, .string ⟨pp.1.toArray⟩, .int .i64 s.1, .slice none 0 0, .int .i64 0, .int .i64 0, .string ⟨#[]⟩] 47) = w8 at *
  generalize hbb : u7.heap.size = bo at *
  have HR8 := Lib.hid (hr7.no hf8)
  have HTW8 := Lib.hid (HTW7.out.fr hf8 (fun h => h))
  have HW8 : Hid (Fr No w w8) := hw7.trans hf8
  have HBO := Lib.hid hbo
  have HSB : Hid (w.heap.size < p ∧ p < bo ∧ bo < w8.heap.size) := ⟨HP.out, HBOp.out, hs8⟩
  clear hw8 hbb hf8 hbo hs8 hr7 hw7 HTW7
  go_wp2_with fail
  go_loopw [20] (fun iv wr => RqRel F w w8 p bo a.1 b.1 k.1 ⟨d.1.toArray⟩ ⟨pp.1.toArray⟩ s.1 N (rlegs N g.2.2 g.2.1) iv wr) (fun iv _ => N - (intOf iv).toNat)
  case atStart => exact ⟨0, [], g.2.2, g.2.1, .slice none 0 0, rfl, ⟨Nat.zero_le _, rfl, HR8.out, he7, HBO.out, Own.nil _ _ _, .inl rfl, rfl, HW8.out, HTW8.out, Nat.le_refl _⟩⟩
  case round =>
    obtain ⟨j, L, lj, ej, v, rfl, hL⟩ := hrel
    obtain ⟨Av, cv, rfl, hv1, hv2⟩ := hL.own.form
    have HL := Lib.hid hL
    clear hL hv1 hv2
    by_cases hlt : j < N
    · have HVK : Hid (∀ k, (Value.slice Av j cv).ownBlock = some k → w8.heap.size ≤ k ∧ k < wr.heap.size) := fun k hk => ⟨newer_none HL.out.new k hk, HL.out.own.lt k hk⟩
      have HJ : Hid (j < N ∧ N ≤ 6) := ⟨hlt, HN6.out⟩
      have hst := rlegs_step hlt lj ej
      have hj6 : (j : Int) < 9223372036854775807 := by have := HN6.out; omega
      go_wp2_with fail
      refine (rText_at F p 8 lj ej _ HL.out.rdr HL.out.err).mono ?_
      rintro e y1 ⟨rfl, hr1, hf1⟩
      unfold twoS
      have he1 : (rtext 8 lj ej).2.1 < 5 := rtext_err _ _ _ HL.out.err
      generalize rtext 8 lj ej = t at *
      have HF1 := Lib.hid hf1
      clear hf1
      go_wp2_with fail
      refine (rNum_at F p t.2.2 t.2.1 _ hr1 he1).mono ?_
      rintro e y2 ⟨rfl, hr2, hf2⟩
      unfold two
      have he2 : (rnum t.2.2 t.2.1).2.1 < 5 := rnum_err _ _ he1
      generalize rnum t.2.2 t.2.1 = z at *
      have HRES : Hid (rlegs N g.2.2 g.2.1 = ((L ++ [⟨⟨t.1.toArray⟩, z.1⟩]) ++ (rlegs (N - (j + 1)) z.2.2 z.2.1).1, (rlegs (N - (j + 1)) z.2.2 z.2.1).2)) := by
        show _ = _
        rw [HL.out.res, hst]
        simp only [List.append_assoc, List.cons_append, List.nil_append]
      have hnp : ∀ k, (Value.slice Av j cv).ownBlock = some k → ¬ At1 p k := fun k hk h => by have h2 := HVK.out k hk; have h3 := HSB.out; have : k = p := h; omega
      have HO2 : Hid (Own y2 92 2 (.slice Av j cv) j (lgs L)) := (HL.out.own.fr HF1.out hnp).fr hf2 hnp
      have HB2 := Lib.hid ((HL.out.blk.fr HF1.out (fun h => by have h3 := HSB.out; have : bo = p := h; omega)).fr hf2 (fun h => by have h3 := HSB.out; have : bo = p := h; omega))
      have HW2 := Lib.hid ((HL.out.two.fr HF1.out (fun h => by have h3 := HSB.out; have : w.heap.size = p := h; omega)).fr hf2 (fun h => by have h3 := HSB.out; have : w.heap.size = p := h; omega))
      have HFW2 : Hid (Fr No w y2) := HT.out (HT.out HL.out.fr HF1.out HP.out) hf2 HP.out
      have HSZ2 : Hid (w8.heap.size ≤ y2.heap.size) := Nat.le_trans HL.out.size (Nat.le_trans HF1.out.size hf2.size)
      have HR2 := Lib.hid hr2
      have x6 := HB2.out.cell 6
      have f6 := HB2.out.frozen 6
      simp only [List.getElem?_toArray, List.getElem?_cons_zero, List.getElem?_cons_succ] at x6
      have HSS : Hid (j + 1 ≤ maxLen ∧ (j + 1) * 24 ≤ 140737488355328) := ⟨by have := HJ.out; unfold maxLen; omega, by have := HJ.out; omega⟩
      have HNE : Hid (∀ k, (Value.slice Av j cv).ownBlock = some k → k ≠ bo ∧ k ≠ w.heap.size ∧ k ≠ p) := fun k hk => by
        have h1 := HVK.out k hk
        have h2 := HSB.out
        omega
      clear hr1 hf2 hr2 hst hnp hlt
      go_wp2_with (at_builtin; refine wpList_app _ rfl (.tmp 93) (.tmp 97) 45 45 rfl elL (HO2.out.alloc _) rfl (Src.of_new y2.heap.size (heap_alloc_new y2 _) Tryz.underlying45 rfl (by simp [Value.oneCell'])) rfl HSS.out.1 HSS.out.2 ?_; intro v5 y5 hown5 hfr5 hnew5; obtain ⟨A5, c5, rfl, _, _⟩ := hown5.form; have hbo5 := (HB2.out.alloc _).fr hfr5 (fun h => (HNE.out _ h).1 rfl); have x7 := hbo5.cell 6; have f7 := hbo5.frozen 6; simp only [List.getElem?_toArray, List.getElem?_cons_zero, List.getElem?_cons_succ] at x7)
      have hbo6 : Blk (y5.setCell ⟨bo, 6, none⟩ (.slice A5 (j + 1) c5)) bo 47 #[.int .i64 a.1, .int .i64 b.1, .int .i64 k.1, .string ⟨d.1.toArray⟩, .string ⟨pp.1.toArray⟩, .int .i64 s.1, .slice A5 (j + 1) c5, .int .i64 0, .int .i64 0, .string ⟨#[]⟩] := hbo5.set_ 6 _
      have hf6 : Fr (At1 bo) y5 (y5.setCell ⟨bo, 6, none⟩ (.slice A5 (j + 1) c5)) := fr_set _ _ _ _
      have hf5 : Fr (AtO (Value.slice Av j cv).ownBlock) y2 y5 := ((Fr.refl _ _).alloc _).trans hfr5
      have hn5 : Newer y2.heap.size (Value.slice Av j cv).ownBlock (Value.slice A5 (j + 1) c5).ownBlock := Newer.trans (H := y2.heap.size) (.inl rfl) (Newer.of hnew5) (by rw [World.size_alloc]; omega)
      generalize y5.setCell ⟨bo, 6, none⟩ (.slice A5 (j + 1) c5) = y6 at *
      go_roundw
      case rel =>
        refine ⟨j + 1, L ++ [⟨⟨t.1.toArray⟩, z.1⟩], z.2.2, z.2.1, .slice A5 (j + 1) c5, by go_num, ⟨by have := HJ.out; omega, by rw [List.length_append, HL.out.len]; rfl, ?_, he2, hbo6, ?_, ?_, HRES.out, ?_, ?_, ?_⟩⟩
        · refine (HR2.out.fr hf5 (fun h => (HNE.out _ h).2.2 rfl) (fun k hk h => ?_)).fr hf6 (fun h => by have : p = bo := h; have := HSB.out; omega) (fun k hk h => ?_)
          · have h1 := (HVK.out k h).1
            have h2 := HSB.out
            have h3 := HFK.out k hk
            omega
          · have h1 : k = bo := h
            have h2 := HSB.out
            have h3 := HFK.out k hk
            omega
        · refine Own.fr (S := At1 bo) (w := y5) ?_ hf6 (fun k hk h => ?_)
          · rw [lgs_append]
            exact hown5
          · have h1 : k = bo := h
            rcases hn5 with h2 | ⟨k2, h2, h3⟩
            · exact (HNE.out k (h2.symm.trans hk)).1 h1
            · rw [hk] at h2
              injection h2 with h2
              have := HB2.out.lt
              omega
        · exact HL.out.new.trans hn5 HSZ2.out
        · refine HT.out (HFW2.out.trans' hf5 (fun k hk hlt => ?_)) hf6 (by have := HSB.out; omega)
          have h1 := (HVK.out k hk).1
          have h3 := HSB.out
          omega
        · exact (HW2.out.fr hf5 (fun h => (HNE.out _ h).2.1 rfl)).fr hf6 (fun h => by have : w.heap.size = bo := h; have := HSB.out; omega)
        · have h1 := hf5.size
          have h2 := hf6.size
          have h3 := HSZ2.out
          omega
      case measure => simp [intOf]; have := HJ.out; omega
    · obtain rfl : j = N := by have := HL.out.le; omega
      have hres := HL.out.res
      rw [Nat.sub_self] at hres
      have hlegs : rlegs j g.2.2 g.2.1 = (L, ej, lj) := by rw [hres]; simp [rlegs]
      have HLEG := Lib.hid hlegs
      clear hres hlegs hlt
      have HV := Lib.hid HL.out.own
      have hw7 := HL.out.fr
      have HTW7 := Lib.hid HL.out.two
      have HBO7 := Lib.hid HL.out.blk
      have hr7 := HL.out.rdr
      have he7' := HL.out.err
      have HLJ := Lib.hid HL.out.len
      have HVN : Hid (∀ k, (Value.slice Av j cv).ownBlock = some k → k ≠ bo ∧ k ≠ w.heap.size ∧ k ≠ p) := fun k hk => by
        have h1 := newer_none HL.out.new k hk
        have h2 := HSB.out
        omega
      clear HL he7
      go_wp2_with fail
      refine (rRange_at F p 0 1000 lj ej _ hr7 he7').mono ?_
      rintro e y8 ⟨rfl, hr8, hf8⟩
      unfold two
      have he8 : (rrange 0 1000 lj ej).2.1 < 5 := rrange_err _ _ _ _ he7'
      generalize hq8 : rrange 0 1000 lj ej = x at *
      have HQ8 := Lib.hid hq8
      have HTW8 := Lib.hid (HTW7.out.fr hf8 (fun h => by have : w.heap.size = p := h; have := HP.out; omega))
      have HBO8 := Lib.hid (HBO7.out.fr hf8 (fun h => by have : bo = p := h; have := HSB.out; omega))
      have HV8 := Lib.hid (HV.out.fr hf8 (fun k hk h => (HVN.out k hk).2.2 h))
      have hw8 : Fr No w y8 := HT.out hw7 hf8 HP.out
      clear hq8 hf8 HTW7 HBO7 HV hr7 hw7 he7'
      go_wp2_with fail
      refine (rRange_at F p 0 9999 x.2.2 x.2.1 _ hr8 he8).mono ?_
      rintro e y9 ⟨rfl, hr9, hf9⟩
      unfold two
      have he9 : (rrange 0 9999 x.2.2 x.2.1).2.1 < 5 := rrange_err _ _ _ _ he8
      generalize hq9 : rrange 0 9999 x.2.2 x.2.1 = hh at *
      have HQ9 := Lib.hid hq9
      have HTW9 := Lib.hid (HTW8.out.fr hf9 (fun h => by have : w.heap.size = p := h; have := HP.out; omega))
      have HBO9 := Lib.hid (HBO8.out.fr hf9 (fun h => by have : bo = p := h; have := HSB.out; omega))
      have HV9 := Lib.hid (HV8.out.fr hf9 (fun k hk h => (HVN.out k hk).2.2 h))
      have hw9 : Fr No w y9 := HT.out hw8 hf9 HP.out
      clear hq9 hf9 HTW8 HBO8 HV8 hr8 hw8 he8
      go_wp2_with fail
      refine (rText_at F p 20 hh.2.2 hh.2.1 _ hr9 he9).mono ?_
      rintro e y10 ⟨rfl, hr10, hf10⟩
      unfold twoS
      have he10 : (rtext 20 hh.2.2 hh.2.1).2.1 < 5 := rtext_err _ _ _ he9
      generalize hq10 : rtext 20 hh.2.2 hh.2.1 = tt at *
      have HQ10 := Lib.hid hq10
      have HTW10 := Lib.hid (HTW9.out.fr hf10 (fun h => by have : w.heap.size = p := h; have := HP.out; omega))
      have HBO10 := Lib.hid (HBO9.out.fr hf10 (fun h => by have : bo = p := h; have := HSB.out; omega))
      have HV10 := Lib.hid (HV9.out.fr hf10 (fun k hk h => (HVN.out k hk).2.2 h))
      have hw10 : Fr No w y10 := HT.out hw9 hf10 HP.out
      clear hq10 hf10 HTW9 HBO9 HV9 hr9 hw9 he9
      have HRAW : Hid (rawQ l = ⟨⟨a.1, b.1, k.1, ⟨d.1.toArray⟩, ⟨pp.1.toArray⟩, s.1, L, x.1, hh.1, ⟨tt.1.toArray⟩⟩, tt.2.1, tt.2.2⟩) := by
        show _ = _
        have hg : g.1.toNat = j := by rw [HN.out]; rfl
        unfold rawQ
        simp only [HQ1.out, HQ2.out, HQ3.out, HQ4.out, HQ5.out, HQ6.out, HQ7.out, hg, HLEG.out, HQ8.out, HQ9.out, HQ10.out]
      have HOK : Hid (Od.ok ⟨a.1, b.1, k.1, ⟨d.1.toArray⟩, ⟨pp.1.toArray⟩, s.1, L, x.1, hh.1, ⟨tt.1.toArray⟩⟩ ∧ ∀ g ∈ L, g.ok) := by
        refine ⟨⟨?_, ?_, ?_, ?_, ?_, ?_, ?_, ?_, ?_⟩, ?_⟩
        · show In64 a.1; rw [← HQ1.out]; exact rr_in64 _ _ _ _
        · show In64 b.1; rw [← HQ2.out]; exact rr_in64 _ _ _ _
        · show In64 k.1; rw [← HQ3.out]; exact rr_in64 _ _ _ _
        · show (⟨d.1.toArray⟩ : ByteArray).size ≤ maxLen; rw [← HQ4.out]; exact rtext_sz 8 (by omega) (by omega) _ _
        · show (⟨pp.1.toArray⟩ : ByteArray).size ≤ maxLen; rw [← HQ5.out]; exact rtext_sz 8 (by omega) (by omega) _ _
        · show In64 s.1; rw [← HQ6.out]; exact rnum_bd _ _
        · show In64 x.1; rw [← HQ8.out]; exact rr_in64 _ _ _ _
        · show In64 hh.1; rw [← HQ9.out]; exact rr_in64 _ _ _ _
        · show (⟨tt.1.toArray⟩ : ByteArray).size ≤ maxLen; rw [← HQ10.out]; exact rtext_sz 20 (by omega) (by omega) _ _
        · intro g' hg'
          have h1 := rlegs_ok j g.2.2 g.2.1
          rw [HLEG.out] at h1
          exact h1 g' hg'
      have HN2 := Lib.hid HN6.out
      clear HN HLEG HQ1 HQ2 HQ3 HQ4 HQ5 HQ6 HQ7 HQ8 HQ9 HQ10
      have x7 := HBO10.out.cell 7
      have x8 := HBO10.out.cell 8
      have x9 := HBO10.out.cell 9
      have f7 := HBO10.out.frozen 7
      have f8 := HBO10.out.frozen 8
      have f9 := HBO10.out.frozen 9
      simp only [List.getElem?_toArray, List.getElem?_cons_zero, List.getElem?_cons_succ] at x7 x8 x9
      go_upto_region 22 with (fail)
      have hb11 := ((HBO10.out.set_ 7 (.int .i64 x.1)).set_ 8 (.int .i64 hh.1)).set_ 9 (.string ⟨tt.1.toArray⟩)
      simp only [List.setIfInBounds_toArray, List.set_cons_zero, List.set_cons_succ] at hb11
      have hf11 : Fr (At1 bo) y10 (((y10.setCell ⟨bo, 7, none⟩ (.int .i64 x.1)).setCell ⟨bo, 8, none⟩ (.int .i64 hh.1)).setCell ⟨bo, 9, none⟩ (.string ⟨tt.1.toArray⟩)) := ((fr_set _ _ _ _).trans (fr_set _ _ _ _)).trans (fr_set _ _ _ _)
      generalize (((y10.setCell ⟨bo, 7, none⟩ (.int .i64 x.1)).setCell ⟨bo, 8, none⟩ (.int .i64 hh.1)).setCell ⟨bo, 9, none⟩ (.string ⟨tt.1.toArray⟩)) = y11 at *
      have HB11 := Lib.hid hb11
      have HTW11 := Lib.hid (HTW10.out.fr hf11 (fun h => by have : w.heap.size = bo := h; have := HSB.out; omega))
      have HV11 := Lib.hid (HV10.out.fr hf11 (fun k hk h => (HVN.out k hk).1 h))
      have HW11 : Hid (Fr No w y11) := HT.out hw10 hf11 (by have := HSB.out; omega)
      obtain ⟨Ar, cr, hbr, hrr, _, _, hlr, _⟩ := hr10.fr hf11 (fun h => by have : p = bo := h; have := HSB.out; omega) (fun k hk h => by have : k = bo := h; have h2 := HSB.out; have h3 := HFK.out k hk; omega)
      have r0 := hbr.cell 0
      have r1 := hbr.cell 1
      simp only [List.getElem?_toArray, List.getElem?_cons_zero, List.getElem?_cons_succ] at r0 r1
      clear hb11 hf11 hw10 HTW10 HV10 HBO10 hr10 x7 x8 x9 f7 f8 f9 hbr hrr
      have HLR := Lib.hid hlr
      clear hlr
      by_cases hE : tt.2.1 = 0
      rotate_left
      · have hz : ((tt.2.1 : Int) != 0) = true := by rw [bne_iff_ne]; omega
        have HE := Lib.hid hE
        clear hE
        have t0 := HTW11.out.cell 0
        have t1 := HTW11.out.cell 1
        have t2 := HTW11.out.cell 2
        have t3 := HTW11.out.cell 3
        have t4 := HTW11.out.cell 4
        have t5 := HTW11.out.cell 5
        have t6 := HTW11.out.cell 6
        have t7 := HTW11.out.cell 7
        have t8 := HTW11.out.cell 8
        have t9 := HTW11.out.cell 9
        simp only [List.getElem?_toArray, List.getElem?_cons_zero, List.getElem?_cons_succ] at t0 t1 t2 t3 t4 t5 t6 t7 t8 t9
        have ft0 := HTW11.out.frozen 0
        have ft1 := HTW11.out.frozen 1
        have ft2 := HTW11.out.frozen 2
        have ft3 := HTW11.out.frozen 3
        have ft4 := HTW11.out.frozen 4
        have ft5 := HTW11.out.frozen 5
        have ft6 := HTW11.out.frozen 6
        have ft7 := HTW11.out.frozen 7
        have ft8 := HTW11.out.frozen 8
        have ft9 := HTW11.out.frozen 9
        have hset := set10 HTW11.out (.int .i64 0) (.int .i64 0) (.int .i64 0) (.string ⟨#[]⟩) (.string ⟨#[]⟩) (.int .i64 0) (.slice none 0 0) (.int .i64 0) (.int .i64 0) (.string ⟨#[]⟩)
        go_wp2
        clear t0 ft0 t1 ft1 t2 ft2 t3 ft3 t4 ft4 t5 ft5 t6 ft6 t7 ft7 t8 ft8 t9 ft9
        obtain ⟨hbZ, hfZ⟩ := hset
        generalize ((((((((((y11.setCell ⟨w.heap.size, 0, none⟩ (.int .i64 0)).setCell ⟨w.heap.size, 1, none⟩ (.int .i64 0)).setCell ⟨w.heap.size, 2, none⟩ (.int .i64 0)).setCell ⟨w.heap.size, 3, none⟩ (.string ⟨#[]⟩)).setCell ⟨w.heap.size, 4, none⟩ (.string ⟨#[]⟩)).setCell ⟨w.heap.size, 5, none⟩ (.int .i64 0)).setCell ⟨w.heap.size, 6, none⟩ (.slice none 0 0)).setCell ⟨w.heap.size, 7, none⟩ (.int .i64 0)).setCell ⟨w.heap.size, 8, none⟩ (.int .i64 0)).setCell ⟨w.heap.size, 9, none⟩ (.string ⟨#[]⟩)) = y9 at *
        have d0 := hbZ.cell 0
        have d1 := hbZ.cell 1
        have d2 := hbZ.cell 2
        have d3 := hbZ.cell 3
        have d4 := hbZ.cell 4
        have d5 := hbZ.cell 5
        have d6 := hbZ.cell 6
        have d7 := hbZ.cell 7
        have d8 := hbZ.cell 8
        have d9 := hbZ.cell 9
        simp only [List.getElem?_toArray, List.getElem?_cons_zero, List.getElem?_cons_succ] at d0 d1 d2 d3 d4 d5 d6 d7 d8 d9
        refine bodyPost_ret (v := .tuple #[.agg #[.int .i64 0, .int .i64 0, .int .i64 0, .string ⟨#[]⟩, .string ⟨#[]⟩, .int .i64 0, .slice none 0 0, .int .i64 0, .int .i64 0, .string ⟨#[]⟩], .int .i64 3]) (by simp [results, Tryz.results53, go_sem, d0, d1, d2, d3, d4, d5, d6, d7, d8, d9]) rfl ?_
        have h3 : RetOd (readO l) (readE l) w (.returned (.tuple #[.agg #[.int .i64 0, .int .i64 0, .int .i64 0, .string ⟨#[]⟩, .string ⟨#[]⟩, .int .i64 0, .slice none 0 0, .int .i64 0, .int .i64 0, .string ⟨#[]⟩], .int .i64 3])) y9 := by
          have hno := HNO.out (by rw [HRAW.out]; exact fun h => HE.out h.1)
          rw [hno.1, hno.2]
          exact ⟨.slice none 0 0, rfl, Own.nil _ _ _, HW11.out.trans' hfZ (fun k hk hlt => by have : k = w.heap.size := hk; omega)⟩
        exact h3
      have hz : ((tt.2.1 : Int) != 0) = false := by rw [bne_eq_false_iff_eq]; omega
      by_cases hL : tt.2.2 = []
      rotate_left
      · have hlen : (0 : Int) < (tt.2.2.length : Int) := by have := List.length_pos_iff.2 hL; omega
        have hlen2 : 0 < tt.2.2.length := List.length_pos_iff.2 hL
        have HE := Lib.hid hL
        clear hL hE
        have t0 := HTW11.out.cell 0
        have t1 := HTW11.out.cell 1
        have t2 := HTW11.out.cell 2
        have t3 := HTW11.out.cell 3
        have t4 := HTW11.out.cell 4
        have t5 := HTW11.out.cell 5
        have t6 := HTW11.out.cell 6
        have t7 := HTW11.out.cell 7
        have t8 := HTW11.out.cell 8
        have t9 := HTW11.out.cell 9
        simp only [List.getElem?_toArray, List.getElem?_cons_zero, List.getElem?_cons_succ] at t0 t1 t2 t3 t4 t5 t6 t7 t8 t9
        have ft0 := HTW11.out.frozen 0
        have ft1 := HTW11.out.frozen 1
        have ft2 := HTW11.out.frozen 2
        have ft3 := HTW11.out.frozen 3
        have ft4 := HTW11.out.frozen 4
        have ft5 := HTW11.out.frozen 5
        have ft6 := HTW11.out.frozen 6
        have ft7 := HTW11.out.frozen 7
        have ft8 := HTW11.out.frozen 8
        have ft9 := HTW11.out.frozen 9
        have hset := set10 HTW11.out (.int .i64 0) (.int .i64 0) (.int .i64 0) (.string ⟨#[]⟩) (.string ⟨#[]⟩) (.int .i64 0) (.slice none 0 0) (.int .i64 0) (.int .i64 0) (.string ⟨#[]⟩)
        go_wp2
        clear t0 ft0 t1 ft1 t2 ft2 t3 ft3 t4 ft4 t5 ft5 t6 ft6 t7 ft7 t8 ft8 t9 ft9
        obtain ⟨hbZ, hfZ⟩ := hset
        generalize ((((((((((y11.setCell ⟨w.heap.size, 0, none⟩ (.int .i64 0)).setCell ⟨w.heap.size, 1, none⟩ (.int .i64 0)).setCell ⟨w.heap.size, 2, none⟩ (.int .i64 0)).setCell ⟨w.heap.size, 3, none⟩ (.string ⟨#[]⟩)).setCell ⟨w.heap.size, 4, none⟩ (.string ⟨#[]⟩)).setCell ⟨w.heap.size, 5, none⟩ (.int .i64 0)).setCell ⟨w.heap.size, 6, none⟩ (.slice none 0 0)).setCell ⟨w.heap.size, 7, none⟩ (.int .i64 0)).setCell ⟨w.heap.size, 8, none⟩ (.int .i64 0)).setCell ⟨w.heap.size, 9, none⟩ (.string ⟨#[]⟩)) = y9 at *
        have d0 := hbZ.cell 0
        have d1 := hbZ.cell 1
        have d2 := hbZ.cell 2
        have d3 := hbZ.cell 3
        have d4 := hbZ.cell 4
        have d5 := hbZ.cell 5
        have d6 := hbZ.cell 6
        have d7 := hbZ.cell 7
        have d8 := hbZ.cell 8
        have d9 := hbZ.cell 9
        simp only [List.getElem?_toArray, List.getElem?_cons_zero, List.getElem?_cons_succ] at d0 d1 d2 d3 d4 d5 d6 d7 d8 d9
        refine bodyPost_ret (v := .tuple #[.agg #[.int .i64 0, .int .i64 0, .int .i64 0, .string ⟨#[]⟩, .string ⟨#[]⟩, .int .i64 0, .slice none 0 0, .int .i64 0, .int .i64 0, .string ⟨#[]⟩], .int .i64 3]) (by simp [results, Tryz.results53, go_sem, d0, d1, d2, d3, d4, d5, d6, d7, d8, d9]) rfl ?_
        have h3 : RetOd (readO l) (readE l) w (.returned (.tuple #[.agg #[.int .i64 0, .int .i64 0, .int .i64 0, .string ⟨#[]⟩, .string ⟨#[]⟩, .int .i64 0, .slice none 0 0, .int .i64 0, .int .i64 0, .string ⟨#[]⟩], .int .i64 3])) y9 := by
          have hno := HNO.out (by rw [HRAW.out]; exact fun h => HE.out h.2.1)
          rw [hno.1, hno.2]
          exact ⟨.slice none 0 0, rfl, Own.nil _ _ _, HW11.out.trans' hfZ (fun k hk hlt => by have : k = w.heap.size := hk; omega)⟩
        exact h3
      have hlen : ¬ (0 : Int) < (tt.2.2.length : Int) := by rw [hL]; simp
      have hlen2 : ¬ 0 < tt.2.2.length := by rw [hL]; simp
      have HE := Lib.hid hE
      have HL0 := Lib.hid hL
      clear hE hL
      have HRC := Lib.hid (HRT.out ⟨a.1, b.1, k.1, ⟨d.1.toArray⟩, ⟨pp.1.toArray⟩, s.1, L, x.1, hh.1, ⟨tt.1.toArray⟩⟩ (.slice Av j cv) y11 HOK.out.1 (by rw [show (⟨a.1, b.1, k.1, ⟨d.1.toArray⟩, ⟨pp.1.toArray⟩, s.1, L, x.1, hh.1, ⟨tt.1.toArray⟩⟩ : Od).legs.length = j from HLJ.out]; exact HV11.out) HOK.out.2 (by rw [show (⟨a.1, b.1, k.1, ⟨d.1.toArray⟩, ⟨pp.1.toArray⟩, s.1, L, x.1, hh.1, ⟨tt.1.toArray⟩⟩ : Od).legs.length = j from HLJ.out]; have := HN2.out; omega))
      unfold Od.val Od.cs at HRC
      simp only at HRC
      have q := HB11.out
      have q0 := q.cell 0
      have q1 := q.cell 1
      have q2 := q.cell 2
      have q3 := q.cell 3
      have q4 := q.cell 4
      have q5 := q.cell 5
      have q6 := q.cell 6
      have q7 := q.cell 7
      have q8 := q.cell 8
      have q9 := q.cell 9
      simp only [List.getElem?_toArray, List.getElem?_cons_zero, List.getElem?_cons_succ] at q0 q1 q2 q3 q4 q5 q6 q7 q8 q9
      go_wp2_with fail
      refine HRC.out.mono ?_
      rintro e y12 ⟨rfl, hf12⟩
      have HTW12 := Lib.hid (HTW11.out.fr hf12 (fun h => h))
      have HW12 := Lib.hid (HW11.out.trans hf12)
      have HB12 := Lib.hid (HB11.out.fr hf12 (fun h => h))
      have HV12 := Lib.hid (HV11.out.fr hf12 (fun _ _ h => h))
      clear hf12 q q0 q1 q2 q3 q4 q5 q6 q7 q8 q9 HRC r0 r1
      cases hro : rightO ⟨a.1, b.1, k.1, ⟨d.1.toArray⟩, ⟨pp.1.toArray⟩, s.1, L, x.1, hh.1, ⟨tt.1.toArray⟩⟩
      · have HRO := Lib.hid hro
        clear hro
        have t0 := HTW12.out.cell 0
        have t1 := HTW12.out.cell 1
        have t2 := HTW12.out.cell 2
        have t3 := HTW12.out.cell 3
        have t4 := HTW12.out.cell 4
        have t5 := HTW12.out.cell 5
        have t6 := HTW12.out.cell 6
        have t7 := HTW12.out.cell 7
        have t8 := HTW12.out.cell 8
        have t9 := HTW12.out.cell 9
        simp only [List.getElem?_toArray, List.getElem?_cons_zero, List.getElem?_cons_succ] at t0 t1 t2 t3 t4 t5 t6 t7 t8 t9
        have ft0 := HTW12.out.frozen 0
        have ft1 := HTW12.out.frozen 1
        have ft2 := HTW12.out.frozen 2
        have ft3 := HTW12.out.frozen 3
        have ft4 := HTW12.out.frozen 4
        have ft5 := HTW12.out.frozen 5
        have ft6 := HTW12.out.frozen 6
        have ft7 := HTW12.out.frozen 7
        have ft8 := HTW12.out.frozen 8
        have ft9 := HTW12.out.frozen 9
        have hset := set10 HTW12.out (.int .i64 0) (.int .i64 0) (.int .i64 0) (.string ⟨#[]⟩) (.string ⟨#[]⟩) (.int .i64 0) (.slice none 0 0) (.int .i64 0) (.int .i64 0) (.string ⟨#[]⟩)
        go_wp2
        clear t0 ft0 t1 ft1 t2 ft2 t3 ft3 t4 ft4 t5 ft5 t6 ft6 t7 ft7 t8 ft8 t9 ft9
        obtain ⟨hbZ, hfZ⟩ := hset
        generalize ((((((((((y12.setCell ⟨w.heap.size, 0, none⟩ (.int .i64 0)).setCell ⟨w.heap.size, 1, none⟩ (.int .i64 0)).setCell ⟨w.heap.size, 2, none⟩ (.int .i64 0)).setCell ⟨w.heap.size, 3, none⟩ (.string ⟨#[]⟩)).setCell ⟨w.heap.size, 4, none⟩ (.string ⟨#[]⟩)).setCell ⟨w.heap.size, 5, none⟩ (.int .i64 0)).setCell ⟨w.heap.size, 6, none⟩ (.slice none 0 0)).setCell ⟨w.heap.size, 7, none⟩ (.int .i64 0)).setCell ⟨w.heap.size, 8, none⟩ (.int .i64 0)).setCell ⟨w.heap.size, 9, none⟩ (.string ⟨#[]⟩)) = y9 at *
        have d0 := hbZ.cell 0
        have d1 := hbZ.cell 1
        have d2 := hbZ.cell 2
        have d3 := hbZ.cell 3
        have d4 := hbZ.cell 4
        have d5 := hbZ.cell 5
        have d6 := hbZ.cell 6
        have d7 := hbZ.cell 7
        have d8 := hbZ.cell 8
        have d9 := hbZ.cell 9
        simp only [List.getElem?_toArray, List.getElem?_cons_zero, List.getElem?_cons_succ] at d0 d1 d2 d3 d4 d5 d6 d7 d8 d9
        refine bodyPost_ret (v := .tuple #[.agg #[.int .i64 0, .int .i64 0, .int .i64 0, .string ⟨#[]⟩, .string ⟨#[]⟩, .int .i64 0, .slice none 0 0, .int .i64 0, .int .i64 0, .string ⟨#[]⟩], .int .i64 3]) (by simp [results, Tryz.results53, go_sem, d0, d1, d2, d3, d4, d5, d6, d7, d8, d9]) rfl ?_
        have h3 : RetOd (readO l) (readE l) w (.returned (.tuple #[.agg #[.int .i64 0, .int .i64 0, .int .i64 0, .string ⟨#[]⟩, .string ⟨#[]⟩, .int .i64 0, .slice none 0 0, .int .i64 0, .int .i64 0, .string ⟨#[]⟩], .int .i64 3])) y9 := by
          have hno := HNO.out (by rw [HRAW.out]; exact fun h => by rw [HRO.out] at h; cases h.2.2)
          rw [hno.1, hno.2]
          exact ⟨.slice none 0 0, rfl, Own.nil _ _ _, HW12.out.trans' hfZ (fun k hk hlt => by have : k = w.heap.size := hk; omega)⟩
        exact h3
      · have HRO := Lib.hid hro
        clear hro
        have q0 := HB12.out.cell 0
        have q1 := HB12.out.cell 1
        have q2 := HB12.out.cell 2
        have q3 := HB12.out.cell 3
        have q4 := HB12.out.cell 4
        have q5 := HB12.out.cell 5
        have q6 := HB12.out.cell 6
        have q7 := HB12.out.cell 7
        have q8 := HB12.out.cell 8
        have q9 := HB12.out.cell 9
        simp only [List.getElem?_toArray, List.getElem?_cons_zero, List.getElem?_cons_succ] at q0 q1 q2 q3 q4 q5 q6 q7 q8 q9
        have t0 := HTW12.out.cell 0
        have t1 := HTW12.out.cell 1
        have t2 := HTW12.out.cell 2
        have t3 := HTW12.out.cell 3
        have t4 := HTW12.out.cell 4
        have t5 := HTW12.out.cell 5
        have t6 := HTW12.out.cell 6
        have t7 := HTW12.out.cell 7
        have t8 := HTW12.out.cell 8
        have t9 := HTW12.out.cell 9
        simp only [List.getElem?_toArray, List.getElem?_cons_zero, List.getElem?_cons_succ] at t0 t1 t2 t3 t4 t5 t6 t7 t8 t9
        have ft0 := HTW12.out.frozen 0
        have ft1 := HTW12.out.frozen 1
        have ft2 := HTW12.out.frozen 2
        have ft3 := HTW12.out.frozen 3
        have ft4 := HTW12.out.frozen 4
        have ft5 := HTW12.out.frozen 5
        have ft6 := HTW12.out.frozen 6
        have ft7 := HTW12.out.frozen 7
        have ft8 := HTW12.out.frozen 8
        have ft9 := HTW12.out.frozen 9
        have hset := set10 HTW12.out (.int .i64 a.1) (.int .i64 b.1) (.int .i64 k.1) (.string ⟨d.1.toArray⟩) (.string ⟨pp.1.toArray⟩) (.int .i64 s.1) (.slice Av j cv) (.int .i64 x.1) (.int .i64 hh.1) (.string ⟨tt.1.toArray⟩)
        go_wp2
        clear q0 t0 ft0 q1 t1 ft1 q2 t2 ft2 q3 t3 ft3 q4 t4 ft4 q5 t5 ft5 q6 t6 ft6 q7 t7 ft7 q8 t8 ft8 q9 t9 ft9
        obtain ⟨hbZ, hfZ⟩ := hset
        generalize ((((((((((y12.setCell ⟨w.heap.size, 0, none⟩ (.int .i64 a.1)).setCell ⟨w.heap.size, 1, none⟩ (.int .i64 b.1)).setCell ⟨w.heap.size, 2, none⟩ (.int .i64 k.1)).setCell ⟨w.heap.size, 3, none⟩ (.string ⟨d.1.toArray⟩)).setCell ⟨w.heap.size, 4, none⟩ (.string ⟨pp.1.toArray⟩)).setCell ⟨w.heap.size, 5, none⟩ (.int .i64 s.1)).setCell ⟨w.heap.size, 6, none⟩ (.slice Av j cv)).setCell ⟨w.heap.size, 7, none⟩ (.int .i64 x.1)).setCell ⟨w.heap.size, 8, none⟩ (.int .i64 hh.1)).setCell ⟨w.heap.size, 9, none⟩ (.string ⟨tt.1.toArray⟩)) = y9 at *
        have d0 := hbZ.cell 0
        have d1 := hbZ.cell 1
        have d2 := hbZ.cell 2
        have d3 := hbZ.cell 3
        have d4 := hbZ.cell 4
        have d5 := hbZ.cell 5
        have d6 := hbZ.cell 6
        have d7 := hbZ.cell 7
        have d8 := hbZ.cell 8
        have d9 := hbZ.cell 9
        simp only [List.getElem?_toArray, List.getElem?_cons_zero, List.getElem?_cons_succ] at d0 d1 d2 d3 d4 d5 d6 d7 d8 d9
        refine bodyPost_ret (v := .tuple #[.agg #[.int .i64 a.1, .int .i64 b.1, .int .i64 k.1, .string ⟨d.1.toArray⟩, .string ⟨pp.1.toArray⟩, .int .i64 s.1, .slice Av j cv, .int .i64 x.1, .int .i64 hh.1, .string ⟨tt.1.toArray⟩], .int .i64 0]) (by simp [results, Tryz.results53, go_sem, d0, d1, d2, d3, d4, d5, d6, d7, d8, d9]) rfl ?_
        have h3 : RetOd (readO l) (readE l) w (.returned (.tuple #[.agg #[.int .i64 a.1, .int .i64 b.1, .int .i64 k.1, .string ⟨d.1.toArray⟩, .string ⟨pp.1.toArray⟩, .int .i64 s.1, .slice Av j cv, .int .i64 x.1, .int .i64 hh.1, .string ⟨tt.1.toArray⟩], .int .i64 0])) y9 := by
          have hy := HYES.out (by rw [HRAW.out]; exact HE.out) (by rw [HRAW.out]; exact HL0.out) (by rw [HRAW.out]; exact HRO.out)
          rw [hy.1, hy.2, HRAW.out]
          refine ⟨.slice Av j cv, rfl, ?_, HW12.out.trans' hfZ (fun k hk hlt => by have : k = w.heap.size := hk; omega)⟩
          rw [show (⟨a.1, b.1, k.1, ⟨d.1.toArray⟩, ⟨pp.1.toArray⟩, s.1, L, x.1, hh.1, ⟨tt.1.toArray⟩⟩ : Od).legs.length = j from HLJ.out]
          exact HV12.out.fr hfZ (fun k hk h => (HVN.out k hk).2.1 h)
        exact h3
end Go.Proofs.YtnphncemghfkbaaGreat
