/- Contracts of package order: Read. What is read is an order that may be held; how long an order's bytes are. -/
import Derived.Test.YtnphncemghfkbaaGreatQ13
import Derived.Deep.DeepCutAuto
import Derived.Test.YtnphncemghfkbaaGreatQ05
namespace Go.Proofs.YtnphncemghfkbaaGreat
open Go.RowKit Go.My Go.Maps
set_option linter.unusedSimpArgs false
set_option linter.unusedVariables false
attribute [local go_sem ↓] Go.wp_at_zero Go.wp_at_succ

theorem oint_any (p q : Nat) (l : List UInt8) (e0 : Nat) (w : World) (h : Rdr w p q l e0) (he : e0 < 5) :
    Calls Tryz.prog 108 #[.pointer (some ⟨p, 0, none⟩)] w (RetR w p q (.int .i64 (rint l e0).1) (rint l e0).2.2 (rint l e0).2.1) := by
  have H := Lib.hid (rrange_at p q (-9223372036854775808) 9223372036854775807 l e0 w h he)
  unfold two at H
  clear h he
  unfold rint
  generalize rrange (-9223372036854775808) 9223372036854775807 l e0 = r at *
  obtain ⟨x, e1, l1⟩ := r
  simp only at H ⊢
  go_enter Tryz.func108, Tryz.ntmps108
  go_wp2_with fail
  refine H.out.mono ?_
  rintro e w1 ⟨rfl, hr, hf⟩
  go_wp2
  go_ret
  exact ⟨rfl, hr, hf⟩

theorem Rdr_no {w w' : World} {p q : Nat} {l : List UInt8} {e : Nat} (h : Rdr w p q l e) (hf : Fr No w w') : Rdr w' p q l e := h.fr hf (fun h => h) (fun h => h)
theorem Rdr_q {w : World} {p q : Nat} {l : List UInt8} {e : Nat} (h : Rdr w p q l e) : p ≠ q ∧ q < w.heap.size := by
  obtain ⟨_, _, _, _, _, _, h⟩ := h
  exact h
/-- an order, its legs the call's own, and an error -/
def RetOd (o : Od) (n : Int) (w : World) (e : Ending) (w' : World) : Prop := ∃ v, e = .returned (.tuple #[o.val v, .int .i64 n]) ∧ Own w' 92 2 v o.legs.length (lgs o.legs) ∧ Fr No w w'
/-- the loop over the legs -/
structure RdL (w w3 : World) (p q bo : Nat) (x1 x2 x3 : Int) (s1 s2 : ByteArray) (x4 : Int) (N : Nat) (res : List Lg × Nat × List UInt8) (j : Nat) (L : List Lg) (l : List UInt8) (e : Nat) (v : Value) (wr : World) : Prop where
  le : j ≤ N
  len : L.length = j
  rdr : Rdr wr p q l e
  err : e < 5
  blk : Blk wr bo 47 #[.int .i64 x1, .int .i64 x2, .int .i64 x3, .string s1, .string s2, .int .i64 x4, v, .int .i64 0, .int .i64 0, .string ⟨#[]⟩]
  own : Own wr 92 2 v j (lgs L)
  new : Newer w3.heap.size none v.ownBlock
  res : res = (L ++ (rlegs (N - j) l e).1, (rlegs (N - j) l e).2)
  fr : Fr No w wr
  two : Blk wr w.heap.size 47 #[.int .i64 0, .int .i64 0, .int .i64 0, .string ⟨#[]⟩, .string ⟨#[]⟩, .int .i64 0, .slice none 0 0, .int .i64 0, .int .i64 0, .string ⟨#[]⟩]
  size : w3.heap.size ≤ wr.heap.size
def RdRel (w w3 : World) (p q bo : Nat) (x1 x2 x3 : Int) (s1 s2 : ByteArray) (x4 : Int) (N : Nat) (res : List Lg × Nat × List UInt8) (iv : Value) (wr : World) : Prop :=
  ∃ j L l e v, iv = .int .i64 (j : Nat) ∧ RdL w w3 p q bo x1 x2 x3 s1 s2 x4 N res j L l e v wr
theorem in64_of {x : Int} (h1 : -9223372036854775808 ≤ x) (h2 : x ≤ 9223372036854775807) : In64 x := ⟨h1, h2⟩
theorem rrange_val (lo hi : Int) (l : List UInt8) (e : Nat) (h1 : lo ≤ 0) (h2 : 0 ≤ hi) : lo ≤ (rrange lo hi l e).1 ∧ (rrange lo hi l e).1 ≤ hi := by
  unfold rrange
  split
  · exact ⟨h1, h2⟩
  · split
    · exact ⟨h1, h2⟩
    · omega
theorem rint_bd (l : List UInt8) (e : Nat) : In64 (rint l e).1 := rrange_val _ _ l e (by omega) (by omega)
theorem rtext_sz (m : Int) (h0 : 0 ≤ m) (hm : m ≤ 100) (l : List UInt8) (e : Nat) : (⟨(rtext m l e).1.toArray⟩ : ByteArray).size ≤ maxLen := by
  have h := rtext_most m h0 l e
  show (rtext m l e).1.toArray.size ≤ maxLen
  rw [List.size_toArray]
  unfold maxLen
  omega
theorem rlegs_ok : ∀ (k : Nat) (l : List UInt8) (e : Nat), ∀ g ∈ (rlegs k l e).1, g.ok
  | 0, _, _, g, h => by cases h
  | k + 1, l, e, g, h => by
    unfold rlegs at h
    simp only [List.mem_cons] at h
    rcases h with rfl | h
    · exact ⟨rtext_sz 8 (by omega) (by omega) l e, rnum_bd _ _⟩
    · exact rlegs_ok k _ _ g h
theorem rlegs_step {N j : Nat} (h : j < N) (l : List UInt8) (e : Nat) : rlegs (N - j) l e =
    (⟨⟨(rtext 8 l e).1.toArray⟩, (rnum (rtext 8 l e).2.2 (rtext 8 l e).2.1).1⟩ :: (rlegs (N - (j + 1)) (rnum (rtext 8 l e).2.2 (rtext 8 l e).2.1).2.2 (rnum (rtext 8 l e).2.2 (rtext 8 l e).2.1).2.1).1,
      (rlegs (N - (j + 1)) (rnum (rtext 8 l e).2.2 (rtext 8 l e).2.1).2.2 (rnum (rtext 8 l e).2.2 (rtext 8 l e).2.1).2.1).2) := by
  rw [show N - j = (N - (j + 1)) + 1 by omega]
  rfl

set_option maxRecDepth 100000 in
set_option maxHeartbeats 8000000 in
theorem oread_any (F : Nat → Prop) (A : Option Addr) (n c : Nat) (l : List UInt8) (w : World) (hn : l.length = n) (hr : Rd w F 1 A n (bs l)) (hsz : n ≤ 140737488355328) :
    Calls Tryz.prog 77 #[.slice A n c] w (RetOd (readO l) (readE l) w) := by
  have HNEW := Lib.hid (fun W (hW : Fr No w W) => pknew_rd F A n c l W hn (hr.fr (by omega) hW (fun _ _ _ h => h)) hsz)
  have HRT : Hid (∀ o v W, o.ok → Own W 92 2 v o.legs.length (lgs o.legs) → (∀ g ∈ o.legs, g.ok) → Calls Tryz.prog 63 #[o.val v] W fun e w' => e = .returned (.bool (rightO o)) ∧ Fr No W w') := fun o v W ho hv hg => by
    obtain ⟨A', c', rfl, h1, h2⟩ := hv.form
    exact rightO_any _ o _ W ho ⟨A', c', lgs o.legs, rfl, hv.rd, lgs_each _ hg, h1, h2⟩
  have HRS : Hid (readB l = true → readO l = (rawO l).o ∧ readE l = 0) := fun h => ⟨by unfold readO; rw [if_pos h], by unfold readE; rw [if_pos h]⟩
  have HRN : Hid (readB l = false → readO l = noO ∧ readE l = 3) := fun h => ⟨by unfold readO; rw [h]; rfl, by unfold readE; rw [h]; rfl⟩
  have HRB : Hid (readB l = (decide (doneE (rawO l).l (rawO l).e = 0) && rightO (rawO l).o)) := rfl
  clear hr hsz
  go_enter Tryz.func77, Tryz.ntmps77
  have hb2 := Blk.new w 47 #[.int .i64 0, .int .i64 0, .int .i64 0, .string ⟨#[]⟩, .string ⟨#[]⟩, .int .i64 0, .slice none 0 0, .int .i64 0, .int .i64 0, .string ⟨#[]⟩]
  go_wp2_with fail
  refine (HNEW.out _ ((Fr.refl _ _).alloc _)).mono ?_
  rintro e w1 ⟨p, q, rfl, hr1, hf1, hp1, hq1⟩
  rw [World.size_alloc] at hp1 hq1
  have HB2 := Lib.hid (hb2.fr hf1 (fun h => h))
  have HF1 : Hid (Fr No w w1) := ((Fr.refl _ _).alloc _).trans hf1
  have hb0 := Blk.new w1 47 #[.int .i64 0, .int .i64 0, .int .i64 0, .string ⟨#[]⟩, .string ⟨#[]⟩, .int .i64 0, .slice none 0 0, .int .i64 0, .int .i64 0, .string ⟨#[]⟩]
  have hfz : Fr No w1 (w1.alloc (.cells #[.int .i64 0, .int .i64 0, .int .i64 0, .string ⟨#[]⟩, .string ⟨#[]⟩, .int .i64 0, .slice none 0 0, .int .i64 0, .int .i64 0, .string ⟨#[]⟩] 47)) := (Fr.refl _ _).alloc _
  have hpl := hr1.lt
  have hql := (Rdr_q hr1).2
  have hs1 := HF1.out.size
  clear hb2 hf1 HNEW
  go_wp2_with fail
  refine (oint_any p q l 0 _ (Rdr_no hr1 hfz) (by omega)).mono ?_
  generalize w1.alloc (.cells #[.int .i64 0, .int .i64 0, .int .i64 0, .string ⟨#[]⟩, .string ⟨#[]⟩, .int .i64 0, .slice none 0 0, .int .i64 0, .int .i64 0, .string ⟨#[]⟩] 47) = w2 at *
  generalize hbo : w1.heap.size = bo at *
  have hf2 : Fr No w w2 := HF1.out.trans hfz
  have HB2' := Lib.hid (HB2.out.fr hfz (fun h => h))
  clear hfz HF1 HB2 hr1
  have HP : Hid (p < bo ∧ q < bo ∧ w.heap.size < p ∧ w.heap.size < q ∧ w.heap.size < bo) := ⟨by omega, by omega, by omega, by omega, by omega⟩
  have HT : Hid (∀ {a b : World} {i : Nat}, Fr No w a → Fr (At1 i) a b → w.heap.size < i → Fr No w b) := fun h1 h2 h3 => h1.trans' h2 (fun j hj hlt => by have : j = _ := hj; omega)
  clear hpl hql hs1 hp1 hq1 hbo
  rintro e u1 ⟨rfl, hra, hfa⟩
  have hea : (rint l 0).2.1 < 5 := rint_err _ _ (by omega)
  generalize hAq : rint l 0 = a at *
  have hba := hb0.fr hfa (fun h => by have : bo = p := h; have := HP.out; omega)
  have HTa := Lib.hid (HB2'.out.fr hfa (fun h => by have : w.heap.size = p := h; have := HP.out; omega))
  have hwa : Fr No w u1 := HT.out hf2 hfa HP.out.2.2.1
  clear HB2'
  have HB2' := HTa
  clear HTa hfa
  go_wp2_with fail
  refine (oint_any p q a.2.2 a.2.1 _ hra hea).mono ?_
  rintro e u2 ⟨rfl, hrb, hfb⟩
  have heb : (rint a.2.2 a.2.1).2.1 < 5 := rint_err _ _ (by omega)
  generalize hBq : rint a.2.2 a.2.1 = b at *
  have hbb := hba.fr hfb (fun h => by have : bo = p := h; have := HP.out; omega)
  have HTb := Lib.hid (HB2'.out.fr hfb (fun h => by have : w.heap.size = p := h; have := HP.out; omega))
  have hwb : Fr No w u2 := HT.out hwa hfb HP.out.2.2.1
  clear HB2'
  have HB2' := HTb
  clear HTb hfb
  go_wp2_with fail
  refine (oint_any p q b.2.2 b.2.1 _ hrb heb).mono ?_
  rintro e u3 ⟨rfl, hrc, hfc⟩
  have hec : (rint b.2.2 b.2.1).2.1 < 5 := rint_err _ _ (by omega)
  generalize hCq : rint b.2.2 b.2.1 = c at *
  have hbc := hbb.fr hfc (fun h => by have : bo = p := h; have := HP.out; omega)
  have HTc := Lib.hid (HB2'.out.fr hfc (fun h => by have : w.heap.size = p := h; have := HP.out; omega))
  have hwc : Fr No w u3 := HT.out hwb hfc HP.out.2.2.1
  clear HB2'
  have HB2' := HTc
  clear HTc hfc
  have c0 := hbc.cell 0
  have f0 := hbc.frozen 0
  have c1 := hbc.cell 1
  have f1 := hbc.frozen 1
  have c2 := hbc.cell 2
  have f2 := hbc.frozen 2
  simp only [List.getElem?_toArray, List.getElem?_cons_zero, List.getElem?_cons_succ] at c0 c1 c2
  go_upto_region 4 with (fail)
  have hbS : Blk (((u3.setCell ⟨bo, 0, none⟩ (.int .i64 a.1)).setCell ⟨bo, 1, none⟩ (.int .i64 b.1)).setCell ⟨bo, 2, none⟩ (.int .i64 c.1)) bo 47 #[.int .i64 a.1, .int .i64 b.1, .int .i64 c.1, .string ⟨#[]⟩, .string ⟨#[]⟩, .int .i64 0, .slice none 0 0, .int .i64 0, .int .i64 0, .string ⟨#[]⟩] := (((hbc.set_ 0 (.int .i64 a.1)).set_ 1 (.int .i64 b.1)).set_ 2 (.int .i64 c.1))
  have hfS : Fr (At1 bo) u3 (((u3.setCell ⟨bo, 0, none⟩ (.int .i64 a.1)).setCell ⟨bo, 1, none⟩ (.int .i64 b.1)).setCell ⟨bo, 2, none⟩ (.int .i64 c.1)) := (((Fr.refl (At1 bo) u3).setCell (p := ⟨bo, 0, none⟩) (fun _ => rfl) (.int .i64 a.1)).setCell (p := ⟨bo, 1, none⟩) (fun _ => rfl) (.int .i64 b.1)).setCell (p := ⟨bo, 2, none⟩) (fun _ => rfl) (.int .i64 c.1)
  generalize (((u3.setCell ⟨bo, 0, none⟩ (.int .i64 a.1)).setCell ⟨bo, 1, none⟩ (.int .i64 b.1)).setCell ⟨bo, 2, none⟩ (.int .i64 c.1)) = v3 at *
  have hrcS := hrc.fr hfS (fun h => by have : p = bo := h; have := HP.out; omega) (fun h => by have : q = bo := h; have := HP.out; omega)
  have hwcS : Fr No w v3 := HT.out hwc hfS HP.out.2.2.2.2
  have HTS := Lib.hid (HB2'.out.fr hfS (fun h => by have : w.heap.size = bo := h; have := HP.out; omega))
  clear HB2'
  have HB2' := HTS
  clear HTS hfS c0 f0 c1 f1 c2 f2
  have hb3 := hbS
  clear hbS hba hbb hbc hra hrb hrc hwa hwb hwc hb0 hf2
  go_wp2_with fail
  refine (rtext_at p q 8 c.2.2 c.2.1 _ hrcS hec).mono ?_
  rintro e u4 ⟨rfl, hrd, hfd⟩
  unfold twoS
  have hed : (rtext 8 c.2.2 c.2.1).2.1 < 5 := rtext_err _ _ _ (by omega)
  generalize hDq : rtext 8 c.2.2 c.2.1 = d at *
  have hbd := hb3.fr hfd (fun h => by have : bo = p := h; have := HP.out; omega)
  have HTd := Lib.hid (HB2'.out.fr hfd (fun h => by have : w.heap.size = p := h; have := HP.out; omega))
  have hwd : Fr No w u4 := HT.out hwcS hfd HP.out.2.2.1
  clear HB2'
  have HB2' := HTd
  clear HTd hfd
  have c3 := hbd.cell 3
  have f3 := hbd.frozen 3
  simp only [List.getElem?_toArray, List.getElem?_cons_zero, List.getElem?_cons_succ] at c3
  go_upto_region 5 with (fail)
  have hbS : Blk (u4.setCell ⟨bo, 3, none⟩ (.string ⟨d.1.toArray⟩)) bo 47 #[.int .i64 a.1, .int .i64 b.1, .int .i64 c.1, .string ⟨d.1.toArray⟩, .string ⟨#[]⟩, .int .i64 0, .slice none 0 0, .int .i64 0, .int .i64 0, .string ⟨#[]⟩] := (hbd.set_ 3 (.string ⟨d.1.toArray⟩))
  have hfS : Fr (At1 bo) u4 (u4.setCell ⟨bo, 3, none⟩ (.string ⟨d.1.toArray⟩)) := (Fr.refl (At1 bo) u4).setCell (p := ⟨bo, 3, none⟩) (fun _ => rfl) (.string ⟨d.1.toArray⟩)
  generalize (u4.setCell ⟨bo, 3, none⟩ (.string ⟨d.1.toArray⟩)) = v4 at *
  have hrdS := hrd.fr hfS (fun h => by have : p = bo := h; have := HP.out; omega) (fun h => by have : q = bo := h; have := HP.out; omega)
  have hwdS : Fr No w v4 := HT.out hwd hfS HP.out.2.2.2.2
  have HTS := Lib.hid (HB2'.out.fr hfS (fun h => by have : w.heap.size = bo := h; have := HP.out; omega))
  clear HB2'
  have HB2' := HTS
  clear HTS hfS c3 f3
  have hb4 := hbS
  clear hbS hbd hb3 hrd hwd hrcS hwcS
  go_wp2_with fail
  refine (rtext_at p q 8 d.2.2 d.2.1 _ hrdS hed).mono ?_
  rintro e u5 ⟨rfl, hrpp, hfpp⟩
  unfold twoS
  have hepp : (rtext 8 d.2.2 d.2.1).2.1 < 5 := rtext_err _ _ _ (by omega)
  generalize hPPq : rtext 8 d.2.2 d.2.1 = pp at *
  have hbpp := hb4.fr hfpp (fun h => by have : bo = p := h; have := HP.out; omega)
  have HTpp := Lib.hid (HB2'.out.fr hfpp (fun h => by have : w.heap.size = p := h; have := HP.out; omega))
  have hwpp : Fr No w u5 := HT.out hwdS hfpp HP.out.2.2.1
  clear HB2'
  have HB2' := HTpp
  clear HTpp hfpp
  have c4 := hbpp.cell 4
  have f4 := hbpp.frozen 4
  simp only [List.getElem?_toArray, List.getElem?_cons_zero, List.getElem?_cons_succ] at c4
  go_upto_region 6 with (fail)
  have hbS : Blk (u5.setCell ⟨bo, 4, none⟩ (.string ⟨pp.1.toArray⟩)) bo 47 #[.int .i64 a.1, .int .i64 b.1, .int .i64 c.1, .string ⟨d.1.toArray⟩, .string ⟨pp.1.toArray⟩, .int .i64 0, .slice none 0 0, .int .i64 0, .int .i64 0, .string ⟨#[]⟩] := (hbpp.set_ 4 (.string ⟨pp.1.toArray⟩))
  have hfS : Fr (At1 bo) u5 (u5.setCell ⟨bo, 4, none⟩ (.string ⟨pp.1.toArray⟩)) := (Fr.refl (At1 bo) u5).setCell (p := ⟨bo, 4, none⟩) (fun _ => rfl) (.string ⟨pp.1.toArray⟩)
  generalize (u5.setCell ⟨bo, 4, none⟩ (.string ⟨pp.1.toArray⟩)) = v5 at *
  have hrppS := hrpp.fr hfS (fun h => by have : p = bo := h; have := HP.out; omega) (fun h => by have : q = bo := h; have := HP.out; omega)
  have hwppS : Fr No w v5 := HT.out hwpp hfS HP.out.2.2.2.2
  have HTS := Lib.hid (HB2'.out.fr hfS (fun h => by have : w.heap.size = bo := h; have := HP.out; omega))
  clear HB2'
  have HB2' := HTS
  clear HTS hfS c4 f4
  have hb5 := hbS
  clear hbS hbpp hb4 hrpp hwpp hrdS hwdS
  go_wp2_with fail
  refine (rnum_at p q pp.2.2 pp.2.1 _ hrppS hepp).mono ?_
  rintro e u6 ⟨rfl, hrs, hfs⟩
  unfold two
  have hes : (rnum pp.2.2 pp.2.1).2.1 < 5 := rnum_err _ _ (by omega)
  generalize hSq : rnum pp.2.2 pp.2.1 = s at *
  have hbs := hb5.fr hfs (fun h => by have : bo = p := h; have := HP.out; omega)
  have HTs := Lib.hid (HB2'.out.fr hfs (fun h => by have : w.heap.size = p := h; have := HP.out; omega))
  have hws : Fr No w u6 := HT.out hwppS hfs HP.out.2.2.1
  clear HB2'
  have HB2' := HTs
  clear HTs hfs
  have c5 := hbs.cell 5
  have f5 := hbs.frozen 5
  simp only [List.getElem?_toArray, List.getElem?_cons_zero, List.getElem?_cons_succ] at c5
  go_upto_region 7 with (fail)
  have hbS : Blk (u6.setCell ⟨bo, 5, none⟩ (.int .i64 s.1)) bo 47 #[.int .i64 a.1, .int .i64 b.1, .int .i64 c.1, .string ⟨d.1.toArray⟩, .string ⟨pp.1.toArray⟩, .int .i64 s.1, .slice none 0 0, .int .i64 0, .int .i64 0, .string ⟨#[]⟩] := (hbs.set_ 5 (.int .i64 s.1))
  have hfS : Fr (At1 bo) u6 (u6.setCell ⟨bo, 5, none⟩ (.int .i64 s.1)) := (Fr.refl (At1 bo) u6).setCell (p := ⟨bo, 5, none⟩) (fun _ => rfl) (.int .i64 s.1)
  generalize (u6.setCell ⟨bo, 5, none⟩ (.int .i64 s.1)) = v6 at *
  have hrsS := hrs.fr hfS (fun h => by have : p = bo := h; have := HP.out; omega) (fun h => by have : q = bo := h; have := HP.out; omega)
  have hwsS : Fr No w v6 := HT.out hws hfS HP.out.2.2.2.2
  have HTS := Lib.hid (HB2'.out.fr hfS (fun h => by have : w.heap.size = bo := h; have := HP.out; omega))
  clear HB2'
  have HB2' := HTS
  clear HTS hfS c5 f5
  have hb6 := hbS
  clear hbS hbs hb5 hrs hws hrppS hwppS
  go_wp2_with fail
  refine (rrange_at p q 0 6 s.2.2 s.2.1 _ hrsS hes).mono ?_
  rintro e u7 ⟨rfl, hrg, hfg⟩
  unfold two
  have heg : (rrange 0 6 s.2.2 s.2.1).2.1 < 5 := rrange_err _ _ _ _ (by omega)
  generalize hGq : rrange 0 6 s.2.2 s.2.1 = g at *
  have hbg := hb6.fr hfg (fun h => by have : bo = p := h; have := HP.out; omega)
  have HTg := Lib.hid (HB2'.out.fr hfg (fun h => by have : w.heap.size = p := h; have := HP.out; omega))
  have hwg : Fr No w u7 := HT.out hwsS hfg HP.out.2.2.1
  clear HB2'
  have HB2' := HTg
  clear HTg hfg
  have hgv : 0 ≤ g.1 ∧ g.1 ≤ 6 := by rw [← hGq]; exact rrange_val 0 6 _ _ (by omega) (by omega)
  obtain ⟨N, hN⟩ : ∃ N : Nat, g.1 = (N : Int) := ⟨g.1.toNat, by omega⟩
  have hN6 : N ≤ 6 := by omega
  have HBG := Lib.hid hbg
  have HRG := Lib.hid hrg
  have HWG := Lib.hid hwg
  have HGV := Lib.hid hgv
  clear hb6 hwsS hrsS hgv hbg hrg hwg
  rw [hN]
  go_wp2
  go_loopw [46] (fun iv wr => RdRel w u7 p q bo a.1 b.1 c.1 ⟨d.1.toArray⟩ ⟨pp.1.toArray⟩ s.1 N (rlegs N g.2.2 g.2.1) iv wr) (fun iv _ => N - (intOf iv).toNat)
  case atStart => exact ⟨0, [], g.2.2, g.2.1, .slice none 0 0, rfl, ⟨Nat.zero_le _, rfl, HRG.out, heg, HBG.out, Own.nil _ _ _, .inl rfl, rfl, HWG.out, HB2'.out, Nat.le_refl _⟩⟩
  case round =>
    obtain ⟨j, L, lj, ej, v, rfl, hL⟩ := hrel
    have hownf := hL.own.form
    obtain ⟨Av, cv, rfl, hv1, hv2⟩ := hownf
    have HL := Lib.hid hL
    clear hL
    have hq7 := (Rdr_q HRG.out).2
    have hsz := HL.out.size
    by_cases hlt : j < N
    · have hbl := Blk.new wr 92 #[.string ⟨#[]⟩, .int .i64 0]
      have hfl : Fr No wr (wr.alloc (.cells #[.string ⟨#[]⟩, .int .i64 0] 92)) := (Fr.refl _ _).alloc _
      have hpw := HL.out.rdr.lt
      have hqw := (Rdr_q HL.out.rdr).2
      have hbw := HL.out.blk.lt
      have HVK : Hid (∀ k, (Value.slice Av j cv).ownBlock = some k → u7.heap.size ≤ k ∧ k < wr.heap.size) := fun k hk => ⟨newer_none HL.out.new k hk, HL.out.own.lt k hk⟩
      have hsz2 := HL.out.fr.size
      go_wp2_with fail
      refine (rtext_at p q 8 lj ej _ (Rdr_no HL.out.rdr hfl) HL.out.err).mono ?_
      generalize wr.alloc (.cells #[.string ⟨#[]⟩, .int .i64 0] 92) = wl at *
      have HFL := Lib.hid hfl
      generalize hbq : wr.heap.size = bl at *
      have HBL : Hid (p < bl ∧ q < bl ∧ bo < bl ∧ u7.heap.size ≤ bl ∧ w.heap.size < bl) := ⟨by omega, by omega, by omega, by omega, by have := HP.out; omega⟩
      clear hfl hpw hqw hbw hq7 hsz hbq
      rintro e y1 ⟨rfl, hr1, hf1⟩
      unfold twoS
      have he1 : (rtext 8 lj ej).2.1 < 5 := rtext_err _ _ _ HL.out.err
      have hst := rlegs_step hlt lj ej
      generalize hTq : rtext 8 lj ej = t at *
      have hbl1 := hbl.fr hf1 (fun h => by have : bl = p := h; have := HBL.out; omega)
      have c0 := hbl1.cell 0
      have f0 := hbl1.frozen 0
      simp only [List.getElem?_toArray, List.getElem?_cons_zero, List.getElem?_cons_succ] at c0
      have HF1 := Lib.hid hf1
      clear hbl hf1
      go_upto_region 12 with (fail)
      have hbl2 : Blk (y1.setCell ⟨bl, 0, none⟩ (.string ⟨t.1.toArray⟩)) bl 92 #[.string ⟨t.1.toArray⟩, .int .i64 0] := hbl1.set_ 0 _
      have hf2 : Fr (At1 bl) y1 (y1.setCell ⟨bl, 0, none⟩ (.string ⟨t.1.toArray⟩)) := fr_set _ _ _ _
      generalize y1.setCell ⟨bl, 0, none⟩ (.string ⟨t.1.toArray⟩) = y2 at *
      have hr2 := hr1.fr hf2 (fun h => by have : p = bl := h; have := HBL.out; omega) (fun h => by have : q = bl := h; have := HBL.out; omega)
      have HF2 := Lib.hid hf2
      clear c0 f0 hbl1 hr1 hf2
      go_wp2_with fail
      refine (rnum_at p q t.2.2 t.2.1 _ hr2 he1).mono ?_
      rintro e y3 ⟨rfl, hr3, hf3⟩
      unfold two
      have he3 : (rnum t.2.2 t.2.1).2.1 < 5 := rnum_err _ _ he1
      generalize hZq : rnum t.2.2 t.2.1 = z at *
      have hbl3 := hbl2.fr hf3 (fun h => by have : bl = p := h; have := HBL.out; omega)
      have c1 := hbl3.cell 1
      have f1 := hbl3.frozen 1
      simp only [List.getElem?_toArray, List.getElem?_cons_zero, List.getElem?_cons_succ] at c1
      have HF3 := Lib.hid hf3
      clear hbl2 hf3 hr2
      go_upto_region 13 with (fail)
      have hbl4 : Blk (y3.setCell ⟨bl, 1, none⟩ (.int .i64 z.1)) bl 92 #[.string ⟨t.1.toArray⟩, .int .i64 z.1] := hbl3.set_ 1 _
      have hf4 : Fr (At1 bl) y3 (y3.setCell ⟨bl, 1, none⟩ (.int .i64 z.1)) := fr_set _ _ _ _
      generalize y3.setCell ⟨bl, 1, none⟩ (.int .i64 z.1) = y4 at *
      have hr4 := hr3.fr hf4 (fun h => by have : p = bl := h; have := HBL.out; omega) (fun h => by have : q = bl := h; have := HBL.out; omega)
      have HBL4 := Lib.hid hbl4
      have HR4 := Lib.hid hr4
      have HF4 : Hid (∀ g, g ≠ p → g < bl → ∀ tt cs, Blk wr g tt cs → Blk y4 g tt cs) := fun g h1 h2 tt cs h =>
        ((((h.fr HFL.out (fun h => h)).fr HF1.out (fun h => h1 h)).fr HF2.out (fun h => by have : g = bl := h; omega)).fr HF3.out (fun h => h1 h)).fr hf4 (fun h => by have : g = bl := h; omega)
      have hp7 := HRG.out.lt
      have HO4 : Hid (Own y4 92 2 (.slice Av j cv) j (lgs L)) := by
        have h1 : ∀ k, (Value.slice Av j cv).ownBlock = some k → ¬ At1 p k := fun k hk h => by have h2 := HVK.out k hk; have : k = p := h; omega
        have h3 : ∀ k, (Value.slice Av j cv).ownBlock = some k → ¬ At1 bl k := fun k hk h => by have h2 := HVK.out k hk; have : k = bl := h; omega
        exact ((((HL.out.own.fr HFL.out (fun _ _ h => h)).fr HF1.out h1).fr HF2.out h3).fr HF3.out h1).fr hf4 h3
      have HBO4 := Lib.hid (HF4.out bo (by have := HP.out; omega) (by have := HBL.out; omega) _ _ HL.out.blk)
      have HTW4 := Lib.hid (HF4.out w.heap.size (by have := HP.out; omega) (by have := HBL.out; omega) _ _ HL.out.two)
      have HW4 : Hid (Fr No w y4 ∧ u7.heap.size ≤ y4.heap.size) := by
        have k0 : Fr No w wl := HL.out.fr.trans HFL.out
        have k1 := HT.out k0 HF1.out HP.out.2.2.1
        have k2 := HT.out k1 HF2.out HBL.out.2.2.2.2
        have k3 := HT.out k2 HF3.out HP.out.2.2.1
        have k4 := HT.out k3 hf4 HBL.out.2.2.2.2
        have z1 := HFL.out.size
        have z2 := HF1.out.size
        have z3 := HF2.out.size
        have z4 := HF3.out.size
        have z5 := hf4.size
        have z6 := HL.out.size
        exact ⟨k4, by omega⟩
      have HRES : Hid (rlegs N g.2.2 g.2.1 = ((L ++ [⟨⟨t.1.toArray⟩, z.1⟩]) ++ (rlegs (N - (j + 1)) z.2.2 z.2.1).1, (rlegs (N - (j + 1)) z.2.2 z.2.1).2)) := by
        show _ = _
        rw [HL.out.res, hst]
        simp only [List.append_assoc, List.cons_append, List.nil_append]
      have x6 := HBO4.out.cell 6
      have l0 := hbl4.cell 0
      have l1 := hbl4.cell 1
      simp only [List.getElem?_toArray, List.getElem?_cons_zero, List.getElem?_cons_succ] at x6 l0 l1
      clear hbl3 hbl4 hr3 hr4 hf4 c1 f1 hst
      have hS1 : j + 1 ≤ maxLen ∧ (j + 1) * 24 ≤ 140737488355328 := ⟨by unfold maxLen; omega, by omega⟩
      have HSS := Lib.hid hS1
      have HNE : Hid (∀ k, (Value.slice Av j cv).ownBlock = some k → k ≠ bo ∧ k ≠ w.heap.size ∧ k ≠ p ∧ k ≠ q) := fun k hk => by
        have h1 := HVK.out k hk
        have h2 := HP.out
        have h3 := HBG.out.lt
        omega
      have HJ : Hid (j < N ∧ N ≤ 6) := ⟨hlt, hN6⟩
      have hj6 : (j : Int) < 6 := by omega
      clear hS1 hlt
      go_wp2_with (at_builtin; refine wpList_app _ rfl (.tmp 61) (.tmp 63) 45 45 rfl elL (HO4.out.alloc _) rfl (Src.of_new y4.heap.size (heap_alloc_new y4 _) Tryz.underlying45 rfl (by simp [Value.oneCell'])) rfl HSS.out.1 HSS.out.2 ?_; intro v5 y5 hown5 hfr5 hnew5; obtain ⟨A5, c5, rfl, _, _⟩ := hown5.form; have hbo5 := (HBO4.out.alloc _).fr hfr5 (fun h => (HNE.out _ h).1 rfl); have x7 := hbo5.cell 6; have f7 := hbo5.frozen 6; simp only [List.getElem?_toArray, List.getElem?_cons_zero, List.getElem?_cons_succ] at x7)
      have hbo6 : Blk (y5.setCell ⟨bo, 6, none⟩ (.slice A5 (j + 1) c5)) bo 47 #[.int .i64 a.1, .int .i64 b.1, .int .i64 c.1, .string ⟨d.1.toArray⟩, .string ⟨pp.1.toArray⟩, .int .i64 s.1, .slice A5 (j + 1) c5, .int .i64 0, .int .i64 0, .string ⟨#[]⟩] := hbo5.set_ 6 _
      have hf6 : Fr (At1 bo) y5 (y5.setCell ⟨bo, 6, none⟩ (.slice A5 (j + 1) c5)) := fr_set _ _ _ _
      have hf5 : Fr (AtO (Value.slice Av j cv).ownBlock) y4 y5 := ((Fr.refl _ _).alloc _).trans hfr5
      have hn5 : Newer y4.heap.size (Value.slice Av j cv).ownBlock (Value.slice A5 (j + 1) c5).ownBlock := Newer.trans (H := y4.heap.size) (.inl rfl) (Newer.of hnew5) (by rw [World.size_alloc]; omega)
      generalize y5.setCell ⟨bo, 6, none⟩ (.slice A5 (j + 1) c5) = y6 at *
      go_roundw
      case rel =>
        refine ⟨j + 1, L ++ [⟨⟨t.1.toArray⟩, z.1⟩], z.2.2, z.2.1, .slice A5 (j + 1) c5, by go_num, ⟨by have := HJ.out; omega, by rw [List.length_append, HL.out.len]; rfl, ?_, he3, hbo6, ?_, ?_, HRES.out, ?_, ?_, ?_⟩⟩
        · exact (HR4.out.fr hf5 (fun h => (HNE.out _ h).2.2.1 rfl) (fun h => (HNE.out _ h).2.2.2 rfl)).fr hf6 (fun h => by have : p = bo := h; have := HP.out; omega) (fun h => by have : q = bo := h; have := HP.out; omega)
        · refine Own.fr (S := At1 bo) (w := y5) ?_ hf6 (fun k hk h => ?_)
          · rw [lgs_append]
            exact hown5
          · have h1 : k = bo := h
            rcases hn5 with h2 | ⟨k2, h2, h3⟩
            · exact (HNE.out k (h2.symm.trans hk)).1 h1
            · rw [hk] at h2
              injection h2 with h2
              have := HBO4.out.lt
              omega
        · exact HL.out.new.trans hn5 HW4.out.2
        · refine HT.out (HW4.out.1.trans' hf5 (fun k hk hlt => ?_)) hf6 HP.out.2.2.2.2
          have h1 := (HVK.out k hk).1
          have h2 := HBG.out.lt
          have h3 := HP.out
          omega
        · exact (HTW4.out.fr hf5 (fun h => (HNE.out _ h).2.1 rfl)).fr hf6 (fun h => by have : w.heap.size = bo := h; have := HP.out; omega)
        · have h1 := hf5.size
          have h2 := hf6.size
          have h3 := HW4.out.2
          omega
      case measure => simp [intOf]; have := HJ.out; omega
    · obtain rfl : j = N := by have := HL.out.le; omega
      have hres := HL.out.res
      rw [Nat.sub_self] at hres
      have hlegs : rlegs j g.2.2 g.2.1 = (L, ej, lj) := by rw [hres]; simp [rlegs]
      have HLEG := Lib.hid hlegs
      clear hres hlegs hlt hv1 hv2
      have HV := Lib.hid HL.out.own
      have HW := Lib.hid HL.out.fr
      have HTW := Lib.hid HL.out.two
      have hr0 := HL.out.rdr
      have hb0 := HL.out.blk
      have hpw := hr0.lt
      have hqw := (Rdr_q hr0).2
      have HVN : Hid (∀ k, (Value.slice Av j cv).ownBlock = some k → k ≠ bo ∧ k ≠ w.heap.size ∧ k ≠ p) := fun k hk => by
        have h1 := newer_none HL.out.new k hk
        have h2 := HP.out
        have h3 := HBG.out.lt
        have h4 := HRG.out.lt
        omega
      have hej := HL.out.err
      have HLN : Hid (L.length = j) := HL.out.len
      clear hq7 hsz HL HB2'
      go_wp2_with fail
      refine (oint_any p q lj ej _ hr0 hej).mono ?_
      rintro e y1 ⟨rfl, hr1, hf1⟩
      have hex : (rint lj ej).2.1 < 5 := rint_err _ _ hej
      generalize hXq : rint lj ej = x at *
      have hb1 := hb0.fr hf1 (fun h => by have : bo = p := h; have := HP.out; omega)
      go_wp2_with fail
      refine (oint_any p q x.2.2 x.2.1 _ hr1 hex).mono ?_
      rintro e y2 ⟨rfl, hr2, hf2⟩
      have heh : (rint x.2.2 x.2.1).2.1 < 5 := rint_err _ _ hex
      generalize hHq : rint x.2.2 x.2.1 = hh at *
      have hb2 := hb1.fr hf2 (fun h => by have : bo = p := h; have := HP.out; omega)
      have c7 := hb2.cell 7
      have f7 := hb2.frozen 7
      have c8 := hb2.cell 8
      have f8 := hb2.frozen 8
      simp only [List.getElem?_toArray, List.getElem?_cons_zero, List.getElem?_cons_succ] at c7 c8
      have HF2 : Hid (Fr (At1 p) wr y2) := hf1.trans hf2
      clear hb0 hb1 hr0 hr1 hf1 hf2
      go_upto_region 16 with (fail)
      have hb3 : Blk ((y2.setCell ⟨bo, 7, none⟩ (.int .i64 x.1)).setCell ⟨bo, 8, none⟩ (.int .i64 hh.1)) bo 47 #[.int .i64 a.1, .int .i64 b.1, .int .i64 c.1, .string ⟨d.1.toArray⟩, .string ⟨pp.1.toArray⟩, .int .i64 s.1, .slice Av j cv, .int .i64 x.1, .int .i64 hh.1, .string ⟨#[]⟩] := (hb2.set_ 7 _).set_ 8 _
      have hf3 : Fr (At1 bo) y2 ((y2.setCell ⟨bo, 7, none⟩ (.int .i64 x.1)).setCell ⟨bo, 8, none⟩ (.int .i64 hh.1)) := (fr_set _ _ _ _).setCell (p := ⟨bo, 8, none⟩) (fun _ => rfl) _
      generalize (y2.setCell ⟨bo, 7, none⟩ (.int .i64 x.1)).setCell ⟨bo, 8, none⟩ (.int .i64 hh.1) = y3 at *
      have hr3 := hr2.fr hf3 (fun h => by have : p = bo := h; have := HP.out; omega) (fun h => by have : q = bo := h; have := HP.out; omega)
      have HF3 := Lib.hid hf3
      clear hb2 hr2 hf3 c7 f7 c8 f8
      go_wp2_with fail
      refine (rtext_at p q 20 hh.2.2 hh.2.1 _ hr3 heh).mono ?_
      rintro e y4 ⟨rfl, hr4, hf4⟩
      unfold twoS
      have het : (rtext 20 hh.2.2 hh.2.1).2.1 < 5 := rtext_err _ _ _ heh
      generalize hTq : rtext 20 hh.2.2 hh.2.1 = t at *
      have hb4 := hb3.fr hf4 (fun h => by have : bo = p := h; have := HP.out; omega)
      have c9 := hb4.cell 9
      have f9 := hb4.frozen 9
      simp only [List.getElem?_toArray, List.getElem?_cons_zero, List.getElem?_cons_succ] at c9
      have HF4 := Lib.hid hf4
      clear hb3 hr3 hf4
      go_upto_region 17 with (fail)
      have hb5 : Blk (y4.setCell ⟨bo, 9, none⟩ (.string ⟨t.1.toArray⟩)) bo 47 #[.int .i64 a.1, .int .i64 b.1, .int .i64 c.1, .string ⟨d.1.toArray⟩, .string ⟨pp.1.toArray⟩, .int .i64 s.1, .slice Av j cv, .int .i64 x.1, .int .i64 hh.1, .string ⟨t.1.toArray⟩] := hb4.set_ 9 _
      have hf5 : Fr (At1 bo) y4 (y4.setCell ⟨bo, 9, none⟩ (.string ⟨t.1.toArray⟩)) := fr_set _ _ _ _
      generalize y4.setCell ⟨bo, 9, none⟩ (.string ⟨t.1.toArray⟩) = y5 at *
      have hr5 := hr4.fr hf5 (fun h => by have : p = bo := h; have := HP.out; omega) (fun h => by have : q = bo := h; have := HP.out; omega)
      have HF5 := Lib.hid hf5
      clear hb4 hr4 hf5 c9 f9
      have HRAW : Hid (rawO l = ⟨⟨a.1, b.1, c.1, ⟨d.1.toArray⟩, ⟨pp.1.toArray⟩, s.1, L, x.1, hh.1, ⟨t.1.toArray⟩⟩, t.2.1, t.2.2⟩) := by
        show _ = _
        unfold rawO
        simp only [hAq, hBq, hCq, hDq, hPPq, hSq, hGq, hN, Int.toNat_natCast, HLEG.out, hXq, hHq, hTq]
      have hpo : ∀ {u v : World} {tt : TypeId} {cs : Array Value} {k : Nat}, k ≠ p → Fr (At1 p) u v → Blk u k tt cs → Blk v k tt cs := fun h1 h2 h3 => h3.fr h2 (fun h => h1 h)
      have HALL : Hid (Fr No w y5 ∧ Own y5 92 2 (.slice Av j cv) j (lgs L) ∧ Blk y5 w.heap.size 47 #[.int .i64 0, .int .i64 0, .int .i64 0, .string ⟨#[]⟩, .string ⟨#[]⟩, .int .i64 0, .slice none 0 0, .int .i64 0, .int .i64 0, .string ⟨#[]⟩]) := by
        have n1 := HT.out HW.out HF2.out HP.out.2.2.1
        have n2 := HT.out n1 HF3.out HP.out.2.2.2.2
        have n3 := HT.out n2 HF4.out HP.out.2.2.1
        have n4 := HT.out n3 HF5.out HP.out.2.2.2.2
        have op : ∀ k, (Value.slice Av j cv).ownBlock = some k → ¬ At1 p k := fun k hk h => (HVN.out k hk).2.2 h
        have ob : ∀ k, (Value.slice Av j cv).ownBlock = some k → ¬ At1 bo k := fun k hk h => (HVN.out k hk).1 h
        have wp : ¬ At1 p w.heap.size := fun h => by have : w.heap.size = p := h; have := HP.out; omega
        have wb : ¬ At1 bo w.heap.size := fun h => by have : w.heap.size = bo := h; have := HP.out; omega
        exact ⟨n4, (((HV.out.fr HF2.out op).fr HF3.out ob).fr HF4.out op).fr HF5.out ob, (((HTW.out.fr HF2.out wp).fr HF3.out wb).fr HF4.out wp).fr HF5.out wb⟩
      have HB5 := Lib.hid hb5
      clear hpo hb5
      go_wp2_with fail
      refine (done_at p q t.2.2 t.2.1 _ hr5 het).mono ?_
      rintro e y6 ⟨rfl, hr6, hf6⟩
      have hRB := HRB.out
      rw [HRAW.out] at hRB
      simp only at hRB
      have HA6 : Hid (Fr No w y6 ∧ Own y6 92 2 (.slice Av j cv) j (lgs L) ∧ Blk y6 w.heap.size 47 #[.int .i64 0, .int .i64 0, .int .i64 0, .string ⟨#[]⟩, .string ⟨#[]⟩, .int .i64 0, .slice none 0 0, .int .i64 0, .int .i64 0, .string ⟨#[]⟩] ∧ Blk y6 bo 47 #[.int .i64 a.1, .int .i64 b.1, .int .i64 c.1, .string ⟨d.1.toArray⟩, .string ⟨pp.1.toArray⟩, .int .i64 s.1, .slice Av j cv, .int .i64 x.1, .int .i64 hh.1, .string ⟨t.1.toArray⟩]) :=
        ⟨HT.out HALL.out.1 hf6 HP.out.2.2.1, HALL.out.2.1.fr hf6 (fun k hk h => (HVN.out k hk).2.2 h), HALL.out.2.2.fr hf6 (fun h => by have : w.heap.size = p := h; have := HP.out; omega), HB5.out.fr hf6 (fun h => by have : bo = p := h; have := HP.out; omega)⟩
      generalize hdn : doneE t.2.2 t.2.1 = dn at *
      have HOK : Hid ((⟨a.1, b.1, c.1, ⟨d.1.toArray⟩, ⟨pp.1.toArray⟩, s.1, L, x.1, hh.1, ⟨t.1.toArray⟩⟩ : Od).ok ∧ ∀ g ∈ L, g.ok) := by
        refine ⟨⟨?_, ?_, ?_, ?_, ?_, ?_, ?_, ?_, ?_⟩, fun g' hg' => ?_⟩
        · show In64 a.1; rw [← hAq]; exact rint_bd _ _
        · show In64 b.1; rw [← hBq]; exact rint_bd _ _
        · show In64 c.1; rw [← hCq]; exact rint_bd _ _
        · show (⟨d.1.toArray⟩ : ByteArray).size ≤ maxLen; rw [← hDq]; exact rtext_sz 8 (by omega) (by omega) _ _
        · show (⟨pp.1.toArray⟩ : ByteArray).size ≤ maxLen; rw [← hPPq]; exact rtext_sz 8 (by omega) (by omega) _ _
        · show In64 s.1; rw [← hSq]; exact rnum_bd _ _
        · show In64 x.1; rw [← hXq]; exact rint_bd _ _
        · show In64 hh.1; rw [← hHq]; exact rint_bd _ _
        · show (⟨t.1.toArray⟩ : ByteArray).size ≤ maxLen; rw [← hTq]; exact rtext_sz 20 (by omega) (by omega) _ _
        · exact rlegs_ok j g.2.2 g.2.1 g' (by rw [HLEG.out]; exact hg')
      have HRW : Hid (∀ W, Fr No y6 W → Calls Tryz.prog 63 #[.agg #[.int .i64 a.1, .int .i64 b.1, .int .i64 c.1, .string ⟨d.1.toArray⟩, .string ⟨pp.1.toArray⟩, .int .i64 s.1, .slice Av j cv, .int .i64 x.1, .int .i64 hh.1, .string ⟨t.1.toArray⟩]] W fun e w' => e = .returned (.bool (rightO ⟨a.1, b.1, c.1, ⟨d.1.toArray⟩, ⟨pp.1.toArray⟩, s.1, L, x.1, hh.1, ⟨t.1.toArray⟩⟩)) ∧ Fr No W w') := fun W hW => HRT.out ⟨a.1, b.1, c.1, ⟨d.1.toArray⟩, ⟨pp.1.toArray⟩, s.1, L, x.1, hh.1, ⟨t.1.toArray⟩⟩ (.slice Av j cv) W HOK.out.1 (by rw [HLN.out]; exact ownNo HA6.out.2.1 hW) HOK.out.2
      have HRAW2 : Hid ((rawO l).o = ⟨a.1, b.1, c.1, ⟨d.1.toArray⟩, ⟨pp.1.toArray⟩, s.1, L, x.1, hh.1, ⟨t.1.toArray⟩⟩) := by show _ = _; rw [HRAW.out]
      have HRB2 := Lib.hid hRB
      clear hRB hAq hBq hCq hDq hPPq hSq hGq hXq hHq hTq hdn hN hN6 HRB HRT HRAW HLEG
      have HEND : Hid (∀ W, Fr No y6 W → readB l = false → RetOd (readO l) (readE l) w (.returned (.tuple #[.agg #[.int .i64 0, .int .i64 0, .int .i64 0, .string ⟨#[]⟩, .string ⟨#[]⟩, .int .i64 0, .slice none 0 0, .int .i64 0, .int .i64 0, .string ⟨#[]⟩], .int .i64 3])) W) := fun W hW hb => by
        rw [(HRN.out hb).1, (HRN.out hb).2]
        exact ⟨.slice none 0 0, rfl, Own.nil _ _ _, HA6.out.1.trans hW⟩
      by_cases hd0 : dn = 0
      · subst hd0
        have hrb : readB l = rightO ⟨a.1, b.1, c.1, ⟨d.1.toArray⟩, ⟨pp.1.toArray⟩, s.1, L, x.1, hh.1, ⟨t.1.toArray⟩⟩ := by rw [HRB2.out]; rfl
        have HRB3 := Lib.hid hrb
        clear hrb HRB2
        have q0 := HA6.out.2.2.2.cell 0
        have q1 := HA6.out.2.2.2.cell 1
        have q2 := HA6.out.2.2.2.cell 2
        have q3 := HA6.out.2.2.2.cell 3
        have q4 := HA6.out.2.2.2.cell 4
        have q5 := HA6.out.2.2.2.cell 5
        have q6 := HA6.out.2.2.2.cell 6
        have q7 := HA6.out.2.2.2.cell 7
        have q8 := HA6.out.2.2.2.cell 8
        have q9 := HA6.out.2.2.2.cell 9
        simp only [List.getElem?_toArray, List.getElem?_cons_zero, List.getElem?_cons_succ] at q0 q1 q2 q3 q4 q5 q6 q7 q8 q9
        go_wp2_with fail
        refine (HRW.out _ (Fr.refl _ _)).mono ?_
        rintro e y8 ⟨rfl, hf8⟩
        have HF8 := Lib.hid hf8
        have hTT := HA6.out.2.2.1.fr hf8 (fun h => h)
        have hbo8 := HA6.out.2.2.2.fr hf8 (fun h => h)
        clear q0 q1 q2 q3 q4 q5 q6 q7 q8 q9 HRW
        cases hro : rightO ⟨a.1, b.1, c.1, ⟨d.1.toArray⟩, ⟨pp.1.toArray⟩, s.1, L, x.1, hh.1, ⟨t.1.toArray⟩⟩
        · have HRBF := Lib.hid (HRB3.out.trans hro)
          clear hro hbo8 hf8
          have t0 := hTT.cell 0
          have t1 := hTT.cell 1
          have t2 := hTT.cell 2
          have t3 := hTT.cell 3
          have t4 := hTT.cell 4
          have t5 := hTT.cell 5
          have t6 := hTT.cell 6
          have t7 := hTT.cell 7
          have t8 := hTT.cell 8
          have t9 := hTT.cell 9
          have ft := hTT.frozen
          simp only [List.getElem?_toArray, List.getElem?_cons_zero, List.getElem?_cons_succ] at t0 t1 t2 t3 t4 t5 t6 t7 t8 t9
          go_wp2
          clear t0 t1 t2 t3 t4 t5 t6 t7 t8 t9 ft
          have hbZ : Blk ((((((((((y8.setCell ⟨w.heap.size, 0, none⟩ (.int .i64 0)).setCell ⟨w.heap.size, 1, none⟩ (.int .i64 0)).setCell ⟨w.heap.size, 2, none⟩ (.int .i64 0)).setCell ⟨w.heap.size, 3, none⟩ (.string ⟨#[]⟩)).setCell ⟨w.heap.size, 4, none⟩ (.string ⟨#[]⟩)).setCell ⟨w.heap.size, 5, none⟩ (.int .i64 0)).setCell ⟨w.heap.size, 6, none⟩ (.slice none 0 0)).setCell ⟨w.heap.size, 7, none⟩ (.int .i64 0)).setCell ⟨w.heap.size, 8, none⟩ (.int .i64 0)).setCell ⟨w.heap.size, 9, none⟩ (.string ⟨#[]⟩)) w.heap.size 47 #[.int .i64 0, .int .i64 0, .int .i64 0, .string ⟨#[]⟩, .string ⟨#[]⟩, .int .i64 0, .slice none 0 0, .int .i64 0, .int .i64 0, .string ⟨#[]⟩] := ((((((((((hTT.set_ 0 (.int .i64 0)).set_ 1 (.int .i64 0)).set_ 2 (.int .i64 0)).set_ 3 (.string ⟨#[]⟩)).set_ 4 (.string ⟨#[]⟩)).set_ 5 (.int .i64 0)).set_ 6 (.slice none 0 0)).set_ 7 (.int .i64 0)).set_ 8 (.int .i64 0)).set_ 9 (.string ⟨#[]⟩))
          have hfZ : Fr (At1 w.heap.size) y8 ((((((((((y8.setCell ⟨w.heap.size, 0, none⟩ (.int .i64 0)).setCell ⟨w.heap.size, 1, none⟩ (.int .i64 0)).setCell ⟨w.heap.size, 2, none⟩ (.int .i64 0)).setCell ⟨w.heap.size, 3, none⟩ (.string ⟨#[]⟩)).setCell ⟨w.heap.size, 4, none⟩ (.string ⟨#[]⟩)).setCell ⟨w.heap.size, 5, none⟩ (.int .i64 0)).setCell ⟨w.heap.size, 6, none⟩ (.slice none 0 0)).setCell ⟨w.heap.size, 7, none⟩ (.int .i64 0)).setCell ⟨w.heap.size, 8, none⟩ (.int .i64 0)).setCell ⟨w.heap.size, 9, none⟩ (.string ⟨#[]⟩)) := ((((((((((Fr.refl (At1 w.heap.size) y8).setCell (p := ⟨w.heap.size, 0, none⟩) (fun _ => rfl) (.int .i64 0)).setCell (p := ⟨w.heap.size, 1, none⟩) (fun _ => rfl) (.int .i64 0)).setCell (p := ⟨w.heap.size, 2, none⟩) (fun _ => rfl) (.int .i64 0)).setCell (p := ⟨w.heap.size, 3, none⟩) (fun _ => rfl) (.string ⟨#[]⟩)).setCell (p := ⟨w.heap.size, 4, none⟩) (fun _ => rfl) (.string ⟨#[]⟩)).setCell (p := ⟨w.heap.size, 5, none⟩) (fun _ => rfl) (.int .i64 0)).setCell (p := ⟨w.heap.size, 6, none⟩) (fun _ => rfl) (.slice none 0 0)).setCell (p := ⟨w.heap.size, 7, none⟩) (fun _ => rfl) (.int .i64 0)).setCell (p := ⟨w.heap.size, 8, none⟩) (fun _ => rfl) (.int .i64 0)).setCell (p := ⟨w.heap.size, 9, none⟩) (fun _ => rfl) (.string ⟨#[]⟩)
          generalize ((((((((((y8.setCell ⟨w.heap.size, 0, none⟩ (.int .i64 0)).setCell ⟨w.heap.size, 1, none⟩ (.int .i64 0)).setCell ⟨w.heap.size, 2, none⟩ (.int .i64 0)).setCell ⟨w.heap.size, 3, none⟩ (.string ⟨#[]⟩)).setCell ⟨w.heap.size, 4, none⟩ (.string ⟨#[]⟩)).setCell ⟨w.heap.size, 5, none⟩ (.int .i64 0)).setCell ⟨w.heap.size, 6, none⟩ (.slice none 0 0)).setCell ⟨w.heap.size, 7, none⟩ (.int .i64 0)).setCell ⟨w.heap.size, 8, none⟩ (.int .i64 0)).setCell ⟨w.heap.size, 9, none⟩ (.string ⟨#[]⟩)) = y9 at *
          have d0 := hbZ.cell 0
          have d1 := hbZ.cell 1
          have d2 := hbZ.cell 2
          have d3 := hbZ.cell 3
          have d4 := hbZ.cell 4
          have d5 := hbZ.cell 5
          have d6 := hbZ.cell 6
          have d7 := hbZ.cell 7
          have d8 := hbZ.cell 8
          have d9 := hbZ.cell 9
          simp only [List.getElem?_toArray, List.getElem?_cons_zero, List.getElem?_cons_succ] at d0 d1 d2 d3 d4 d5 d6 d7 d8 d9
          refine bodyPost_ret (v := .tuple #[.agg #[.int .i64 0, .int .i64 0, .int .i64 0, .string ⟨#[]⟩, .string ⟨#[]⟩, .int .i64 0, .slice none 0 0, .int .i64 0, .int .i64 0, .string ⟨#[]⟩], .int .i64 3]) (by simp [results, Tryz.results77, go_sem, d0, d1, d2, d3, d4, d5, d6, d7, d8, d9]) rfl ?_
          have h3 : RetOd (readO l) (readE l) w (.returned (.tuple #[.agg #[.int .i64 0, .int .i64 0, .int .i64 0, .string ⟨#[]⟩, .string ⟨#[]⟩, .int .i64 0, .slice none 0 0, .int .i64 0, .int .i64 0, .string ⟨#[]⟩], .int .i64 3])) y9 := by
            rw [(HRN.out HRBF.out).1, (HRN.out HRBF.out).2]
            exact ⟨.slice none 0 0, rfl, Own.nil _ _ _, (HA6.out.1.trans HF8.out).trans' hfZ (fun k hk hlt => by have : k = w.heap.size := hk; omega)⟩
          exact h3
        · have HRBT := Lib.hid (HRB3.out.trans hro)
          clear hro hf8
          have q0 := hbo8.cell 0
          have q1 := hbo8.cell 1
          have q2 := hbo8.cell 2
          have q3 := hbo8.cell 3
          have q4 := hbo8.cell 4
          have q5 := hbo8.cell 5
          have q6 := hbo8.cell 6
          have q7 := hbo8.cell 7
          have q8 := hbo8.cell 8
          have q9 := hbo8.cell 9
          simp only [List.getElem?_toArray, List.getElem?_cons_zero, List.getElem?_cons_succ] at q0 q1 q2 q3 q4 q5 q6 q7 q8 q9
          have HTT := Lib.hid hTT
          have HSZ : Hid ((Tryz.prog.info? 47).map (·.size) = some 10) := by show _ = _; kernel_rfl
          clear hTT
          go_wp2_with (refine wpList_store_row rfl 47 (.tmp 2) (.tmp 88) rfl w.heap.size #[.int .i64 a.1, .int .i64 b.1, .int .i64 c.1, .string ⟨d.1.toArray⟩, .string ⟨pp.1.toArray⟩, .int .i64 s.1, .slice Av j cv, .int .i64 x.1, .int .i64 hh.1, .string ⟨t.1.toArray⟩] rfl rfl 47 #[.int .i64 0, .int .i64 0, .int .i64 0, .string ⟨#[]⟩, .string ⟨#[]⟩, .int .i64 0, .slice none 0 0, .int .i64 0, .int .i64 0, .string ⟨#[]⟩] HTT.out HSZ.out rfl (by simp [Value.oneCell']) ?_)
          clear q0 q1 q2 q3 q4 q5 q6 q7 q8 q9
          have hbZ : Blk (y8.setRow w.heap.size #[.int .i64 a.1, .int .i64 b.1, .int .i64 c.1, .string ⟨d.1.toArray⟩, .string ⟨pp.1.toArray⟩, .int .i64 s.1, .slice Av j cv, .int .i64 x.1, .int .i64 hh.1, .string ⟨t.1.toArray⟩]) w.heap.size 47 #[.int .i64 a.1, .int .i64 b.1, .int .i64 c.1, .string ⟨d.1.toArray⟩, .string ⟨pp.1.toArray⟩, .int .i64 s.1, .slice Av j cv, .int .i64 x.1, .int .i64 hh.1, .string ⟨t.1.toArray⟩] := setRow_heap y8 w.heap.size _ _ _ _ HTT.out
          have hfZ : Fr (At1 w.heap.size) y8 (y8.setRow w.heap.size #[.int .i64 a.1, .int .i64 b.1, .int .i64 c.1, .string ⟨d.1.toArray⟩, .string ⟨pp.1.toArray⟩, .int .i64 s.1, .slice Av j cv, .int .i64 x.1, .int .i64 hh.1, .string ⟨t.1.toArray⟩]) := Fr.setRow (S := At1 w.heap.size) (Fr.refl _ y8) (fun _ => rfl) _
          generalize y8.setRow w.heap.size #[.int .i64 a.1, .int .i64 b.1, .int .i64 c.1, .string ⟨d.1.toArray⟩, .string ⟨pp.1.toArray⟩, .int .i64 s.1, .slice Av j cv, .int .i64 x.1, .int .i64 hh.1, .string ⟨t.1.toArray⟩] = y9 at *
          have d0 := hbZ.cell 0
          have d1 := hbZ.cell 1
          have d2 := hbZ.cell 2
          have d3 := hbZ.cell 3
          have d4 := hbZ.cell 4
          have d5 := hbZ.cell 5
          have d6 := hbZ.cell 6
          have d7 := hbZ.cell 7
          have d8 := hbZ.cell 8
          have d9 := hbZ.cell 9
          simp only [List.getElem?_toArray, List.getElem?_cons_zero, List.getElem?_cons_succ] at d0 d1 d2 d3 d4 d5 d6 d7 d8 d9
          refine bodyPost_ret (v := .tuple #[.agg #[.int .i64 a.1, .int .i64 b.1, .int .i64 c.1, .string ⟨d.1.toArray⟩, .string ⟨pp.1.toArray⟩, .int .i64 s.1, .slice Av j cv, .int .i64 x.1, .int .i64 hh.1, .string ⟨t.1.toArray⟩], .int .i64 0]) (by simp [results, Tryz.results77, go_sem, d0, d1, d2, d3, d4, d5, d6, d7, d8, d9]) rfl ?_
          have h3 : RetOd (readO l) (readE l) w (.returned (.tuple #[.agg #[.int .i64 a.1, .int .i64 b.1, .int .i64 c.1, .string ⟨d.1.toArray⟩, .string ⟨pp.1.toArray⟩, .int .i64 s.1, .slice Av j cv, .int .i64 x.1, .int .i64 hh.1, .string ⟨t.1.toArray⟩], .int .i64 0])) y9 := by
            rw [(HRS.out HRBT.out).1, (HRS.out HRBT.out).2, HRAW2.out]
            refine ⟨.slice Av j cv, rfl, ?_, (HA6.out.1.trans HF8.out).trans' hfZ (fun k hk hlt => by have : k = w.heap.size := hk; omega)⟩
            rw [HLN.out]
            exact (HA6.out.2.1.fr HF8.out (fun _ _ h => h)).fr hfZ (fun k hk h => (HVN.out k hk).2.1 h)
          exact h3
      · have hz : ((dn : Int) != 0) = true := by rw [bne_iff_ne]; omega
        have HB := Lib.hid (HEND.out)
        have hrb : readB l = false := by rw [HRB2.out, decide_eq_false hd0, Bool.false_and]
        have HRBF := Lib.hid hrb
        have t0 := HA6.out.2.2.1.cell 0
        have t1 := HA6.out.2.2.1.cell 1
        have t2 := HA6.out.2.2.1.cell 2
        have t3 := HA6.out.2.2.1.cell 3
        have t4 := HA6.out.2.2.1.cell 4
        have t5 := HA6.out.2.2.1.cell 5
        have t6 := HA6.out.2.2.1.cell 6
        have t7 := HA6.out.2.2.1.cell 7
        have t8 := HA6.out.2.2.1.cell 8
        have t9 := HA6.out.2.2.1.cell 9
        have ft := HA6.out.2.2.1.frozen
        simp only [List.getElem?_toArray, List.getElem?_cons_zero, List.getElem?_cons_succ] at t0 t1 t2 t3 t4 t5 t6 t7 t8 t9
        clear hd0 hrb
        go_wp2
        have hTT := HA6.out.2.2.1
        clear t0 t1 t2 t3 t4 t5 t6 t7 t8 t9 ft
        have hbZ : Blk ((((((((((y6.setCell ⟨w.heap.size, 0, none⟩ (.int .i64 0)).setCell ⟨w.heap.size, 1, none⟩ (.int .i64 0)).setCell ⟨w.heap.size, 2, none⟩ (.int .i64 0)).setCell ⟨w.heap.size, 3, none⟩ (.string ⟨#[]⟩)).setCell ⟨w.heap.size, 4, none⟩ (.string ⟨#[]⟩)).setCell ⟨w.heap.size, 5, none⟩ (.int .i64 0)).setCell ⟨w.heap.size, 6, none⟩ (.slice none 0 0)).setCell ⟨w.heap.size, 7, none⟩ (.int .i64 0)).setCell ⟨w.heap.size, 8, none⟩ (.int .i64 0)).setCell ⟨w.heap.size, 9, none⟩ (.string ⟨#[]⟩)) w.heap.size 47 #[.int .i64 0, .int .i64 0, .int .i64 0, .string ⟨#[]⟩, .string ⟨#[]⟩, .int .i64 0, .slice none 0 0, .int .i64 0, .int .i64 0, .string ⟨#[]⟩] := ((((((((((hTT.set_ 0 (.int .i64 0)).set_ 1 (.int .i64 0)).set_ 2 (.int .i64 0)).set_ 3 (.string ⟨#[]⟩)).set_ 4 (.string ⟨#[]⟩)).set_ 5 (.int .i64 0)).set_ 6 (.slice none 0 0)).set_ 7 (.int .i64 0)).set_ 8 (.int .i64 0)).set_ 9 (.string ⟨#[]⟩))
        have hfZ : Fr (At1 w.heap.size) y6 ((((((((((y6.setCell ⟨w.heap.size, 0, none⟩ (.int .i64 0)).setCell ⟨w.heap.size, 1, none⟩ (.int .i64 0)).setCell ⟨w.heap.size, 2, none⟩ (.int .i64 0)).setCell ⟨w.heap.size, 3, none⟩ (.string ⟨#[]⟩)).setCell ⟨w.heap.size, 4, none⟩ (.string ⟨#[]⟩)).setCell ⟨w.heap.size, 5, none⟩ (.int .i64 0)).setCell ⟨w.heap.size, 6, none⟩ (.slice none 0 0)).setCell ⟨w.heap.size, 7, none⟩ (.int .i64 0)).setCell ⟨w.heap.size, 8, none⟩ (.int .i64 0)).setCell ⟨w.heap.size, 9, none⟩ (.string ⟨#[]⟩)) := ((((((((((Fr.refl (At1 w.heap.size) y6).setCell (p := ⟨w.heap.size, 0, none⟩) (fun _ => rfl) (.int .i64 0)).setCell (p := ⟨w.heap.size, 1, none⟩) (fun _ => rfl) (.int .i64 0)).setCell (p := ⟨w.heap.size, 2, none⟩) (fun _ => rfl) (.int .i64 0)).setCell (p := ⟨w.heap.size, 3, none⟩) (fun _ => rfl) (.string ⟨#[]⟩)).setCell (p := ⟨w.heap.size, 4, none⟩) (fun _ => rfl) (.string ⟨#[]⟩)).setCell (p := ⟨w.heap.size, 5, none⟩) (fun _ => rfl) (.int .i64 0)).setCell (p := ⟨w.heap.size, 6, none⟩) (fun _ => rfl) (.slice none 0 0)).setCell (p := ⟨w.heap.size, 7, none⟩) (fun _ => rfl) (.int .i64 0)).setCell (p := ⟨w.heap.size, 8, none⟩) (fun _ => rfl) (.int .i64 0)).setCell (p := ⟨w.heap.size, 9, none⟩) (fun _ => rfl) (.string ⟨#[]⟩)
        generalize ((((((((((y6.setCell ⟨w.heap.size, 0, none⟩ (.int .i64 0)).setCell ⟨w.heap.size, 1, none⟩ (.int .i64 0)).setCell ⟨w.heap.size, 2, none⟩ (.int .i64 0)).setCell ⟨w.heap.size, 3, none⟩ (.string ⟨#[]⟩)).setCell ⟨w.heap.size, 4, none⟩ (.string ⟨#[]⟩)).setCell ⟨w.heap.size, 5, none⟩ (.int .i64 0)).setCell ⟨w.heap.size, 6, none⟩ (.slice none 0 0)).setCell ⟨w.heap.size, 7, none⟩ (.int .i64 0)).setCell ⟨w.heap.size, 8, none⟩ (.int .i64 0)).setCell ⟨w.heap.size, 9, none⟩ (.string ⟨#[]⟩)) = y7 at *
        have d0 := hbZ.cell 0
        have d1 := hbZ.cell 1
        have d2 := hbZ.cell 2
        have d3 := hbZ.cell 3
        have d4 := hbZ.cell 4
        have d5 := hbZ.cell 5
        have d6 := hbZ.cell 6
        have d7 := hbZ.cell 7
        have d8 := hbZ.cell 8
        have d9 := hbZ.cell 9
        simp only [List.getElem?_toArray, List.getElem?_cons_zero, List.getElem?_cons_succ] at d0 d1 d2 d3 d4 d5 d6 d7 d8 d9
        refine bodyPost_ret (v := .tuple #[.agg #[.int .i64 0, .int .i64 0, .int .i64 0, .string ⟨#[]⟩, .string ⟨#[]⟩, .int .i64 0, .slice none 0 0, .int .i64 0, .int .i64 0, .string ⟨#[]⟩], .int .i64 3]) (by simp [results, Tryz.results77, go_sem, d0, d1, d2, d3, d4, d5, d6, d7, d8, d9]) rfl ?_
        have h3 : RetOd (readO l) (readE l) w (.returned (.tuple #[.agg #[.int .i64 0, .int .i64 0, .int .i64 0, .string ⟨#[]⟩, .string ⟨#[]⟩, .int .i64 0, .slice none 0 0, .int .i64 0, .int .i64 0, .string ⟨#[]⟩], .int .i64 3])) y7 := by
          rw [(HRN.out HRBF.out).1, (HRN.out HRBF.out).2]
          exact ⟨.slice none 0 0, rfl, Own.nil _ _ _, HA6.out.1.trans' hfZ (fun k hk hlt => by have : k = w.heap.size := hk; omega)⟩
        exact h3
end Go.Proofs.YtnphncemghfkbaaGreat

namespace Go.Proofs.YtnphncemghfkbaaGreat
open Go.RowKit Go.My Go.Maps
set_option linter.unusedSimpArgs false
set_option linter.unusedVariables false

theorem raw_ok (l : List UInt8) : (rawO l).o.ok ∧ ∀ g ∈ (rawO l).o.legs, g.ok := by
  unfold rawO
  simp only
  generalize hA : rint l 0 = a
  generalize hB : rint a.2.2 a.2.1 = b
  generalize hC : rint b.2.2 b.2.1 = c
  generalize hD : rtext 8 c.2.2 c.2.1 = d
  generalize hP : rtext 8 d.2.2 d.2.1 = p
  generalize hS : rnum p.2.2 p.2.1 = s
  generalize hN : rrange 0 6 s.2.2 s.2.1 = n
  generalize hG : rlegs n.1.toNat n.2.2 n.2.1 = g
  generalize hX : rint g.2.2 g.2.1 = x
  generalize hH : rint x.2.2 x.2.1 = h
  generalize hT : rtext 20 h.2.2 h.2.1 = t
  have ha : In64 a.1 := by rw [← hA]; exact rint_bd _ _
  have hb : In64 b.1 := by rw [← hB]; exact rint_bd _ _
  have hc : In64 c.1 := by rw [← hC]; exact rint_bd _ _
  have hd : (⟨d.1.toArray⟩ : ByteArray).size ≤ maxLen := by rw [← hD]; exact rtext_sz 8 (by omega) (by omega) _ _
  have hp : (⟨p.1.toArray⟩ : ByteArray).size ≤ maxLen := by rw [← hP]; exact rtext_sz 8 (by omega) (by omega) _ _
  have hs : In64 s.1 := by rw [← hS]; exact rnum_bd _ _
  have hg : ∀ k ∈ g.1, k.ok := by rw [← hG]; exact rlegs_ok _ _ _
  have hx : In64 x.1 := by rw [← hX]; exact rint_bd _ _
  have hh : In64 h.1 := by rw [← hH]; exact rint_bd _ _
  have ht : (⟨t.1.toArray⟩ : ByteArray).size ≤ maxLen := by rw [← hT]; exact rtext_sz 20 (by omega) (by omega) _ _
  clear hA hB hC hD hP hS hN hG hX hH hT
  exact ⟨⟨ha, hb, hc, hd, hp, hs, hx, hh, ht⟩, hg⟩
theorem noO_ok : noO.ok := by
  unfold noO Od.ok In64
  simp only
  refine ⟨by omega, by omega, by omega, by decide, by decide, by omega, by omega, by omega, by decide⟩
theorem read_ok (l : List UInt8) : (readO l).ok ∧ ∀ g ∈ (readO l).legs, g.ok := by
  unfold readO
  split
  · exact raw_ok l
  · exact ⟨noO_ok, fun g hg => by cases hg⟩
theorem LgS.of_own {w : World} {v : Value} {L : List Lg} (h : Own w 92 2 v L.length (lgs L)) (hk : ∀ g ∈ L, g.ok) : ∃ F, LgS w F v L := by
  obtain ⟨A, c, rfl, h1, h2⟩ := h.form
  exact ⟨_, A, c, _, rfl, h.rd, lgs_each L hk, h1, h2⟩
theorem LgS.any {w : World} {F : Nat → Prop} {v : Value} {L : List Lg} (h : LgS w F v L) : LgS w (fun _ => True) v L := by
  obtain ⟨A, c, cells, e, hr, r⟩ := h
  exact ⟨A, c, cells, e, hr.more (fun _ _ => True.intro), r⟩
/-- the bytes of an order are read as it -/
theorem back_case (o : Od) (ho : o.ok) (hg : ∀ g ∈ o.legs, g.ok) : (obE o = 0 ∧ readO (obL o) = o ∧ readE (obL o) = 0) ∨ obE o = 1 := by
  by_cases h : rightO o = true
  · left
    unfold obE obL
    rw [if_pos h, if_pos h]
    have := bytes_read h ho (fun g hg' => (hg g hg').2)
    exact ⟨rfl, this.2, by unfold readE; rw [if_pos this.1]⟩
  · right
    unfold obE
    rw [if_neg h]
/-- what is read is written as just these bytes -/
theorem again_case (B : List UInt8) : (readE B = 3 ∧ (readO B) = noO) ∨ (readE B = 0 ∧ obE (readO B) = 0 ∧ obL (readO B) = B ∧ rightO (readO B) = true) := by
  by_cases h : readB B = true
  · right
    have := read_bytes h
    unfold readE obE obL
    rw [if_pos h, if_pos this.1, if_pos this.1]
    exact ⟨rfl, rfl, this.2.1, this.1⟩
  · left
    unfold readE readO
    rw [if_neg h, if_neg h]
    exact ⟨rfl, rfl⟩
theorem obL_len (o : Od) : (obL o).length ≤ 1000 := by
  unfold obL
  split
  · rename_i h
    have hs := right_short h
    have h1 := head_len hs
    have h2 := legsBy_len hs.each
    have h3 := nB_len o.per
    have h4 := nB_len o.hold
    have h5 := tB_len o.note.data.toList
    have h6 := hs.note
    have h7 := hs.legs
    unfold bytesO tailB
    simp only [List.length_append]
    omega
  · simp
end Go.Proofs.YtnphncemghfkbaaGreat
