/- The closure of clash.begins: may an order stand ahead of another one? Rows of marked orders; slices.ContainsFunc over them; clash.begins. clash.begins. clash.Begins, Alike, Rest, Meet. clash.Meet. -/
import Derived.Test.YtnphncemghfkbaaGreatQ07
import Derived.Test.YtnphncemghfkbaaGreatQ02
import Derived.Test.YtnphncemghfkbaaGreatQ06
namespace Go.Proofs.YtnphncemghfkbaaGreat
open Go.RowKit Go.My Go.Maps Go.WideMaps
set_option linter.unusedSimpArgs false
set_option linter.unusedVariables false
attribute [local go_sem ↓] Go.wp_at_zero Go.wp_at_succ

theorem IMp.look1 {w : World} {m : Nat} {L : List Idk} (h : IMp w m L) (a : Idk) (ha : IdOk a) :
    (Instr.lookup 87 (.map (some m)) (.agg #[.int .i64 a.1, .int .i64 a.2]) false).run Tryz.prog w = .ok (.int .i64 (posO (posF L a))) w := by
  obtain ⟨D, hD, hR⟩ := h.own
  obtain ⟨c, hrun, hat, hwc⟩ := hD.lookup_int keyedI Tryz.underlying87 Tryz.underlying3 (zeroId w) (key_id ha)
  rw [hR.look _ ha] at hat
  rw [hrun]
  have : c = posO (posF L a) := by
    cases hg : posF L a with
    | none =>
      rw [hg] at hat
      simp only [DataW.lit.injEq, Lit.int.injEq, true_and] at hat
      exact hat.symm
    | some i =>
      rw [hg] at hat
      simp only [DataW.lit.injEq, Lit.int.injEq, true_and] at hat
      exact hat.symm
  rw [this]
def badI (L : List Idk) (o x : Od) : Bool := clashB x o && (leftB L x || decide (posO (posF L o.id) < posO (posF L x.id)))
theorem badI_eq (a : List Od) (o x : Od) : badI (idsO a) o x = badB a o x := by
  unfold badI badB leftB
  rw [posF_isSome]
/-- the variables that the closure holds -/
structure MsS (w : World) (gm gl ga go_ gw mw ma : Nat) (L : List Idk) (o : Od) (vo : Value) (B : Option Addr) (d : Nat) : Prop where
  mkk : ∃ t, Blk w gm t (o.cs vo ++ [Value.slice B (touchL o).length d]).toArray
  lf : w.cell? ⟨gl, 0, none⟩ = some (woV gw)
  wo : WoS w gw mw L
  at_ : w.cell? ⟨ga, 0, none⟩ = some (.map (some ma))
  mp : IMp w ma L
  od : ∃ t, Blk w go_ t (o.cs vo).toArray
  tc : Rd w (fun _ => True) 1 B (touchL o).length (ts (touchL o))
  vf : ∃ A n c, vo = .slice A n c
  ok : IdOk o.id
  sm : (touchL o).length ≤ 1000000
theorem MsS.no {w w' : World} {gm gl ga go_ gw mw ma : Nat} {L : List Idk} {o : Od} {vo : Value} {B : Option Addr} {d : Nat} (h : MsS w gm gl ga go_ gw mw ma L o vo B d) (hf : Fr No w w') : MsS w' gm gl ga go_ gw mw ma L o vo B d where
  mkk := by
    obtain ⟨t, h⟩ := h.mkk
    exact ⟨t, h.fr hf (fun h => h)⟩
  lf := hf.cell_some h.lf (fun h => h)
  wo := h.wo.no hf
  at_ := hf.cell_some h.at_ (fun h => h)
  mp := h.mp.fr hf (fun h => h)
  od := by
    obtain ⟨t, h⟩ := h.od
    exact ⟨t, h.fr hf (fun h => h)⟩
  tc := h.tc.fr (by omega) hf (fun _ _ _ h => h)
  vf := h.vf
  ok := h.ok
  sm := h.sm
set_option maxRecDepth 100000 in
set_option maxHeartbeats 600000 in
theorem misplaced_any (w : World) (gm gl ga go_ gw mw ma : Nat) (L : List Idk) (o : Od) (vo : Value) (B : Option Addr) (d : Nat) (h : MsS w gm gl ga go_ gw mw ma L o vo B d)
    (x : Od) (vx : Value) (F : Nat → Prop) (C : Option Addr) (e_ : Nat) (hx : Rd w F 1 C (touchL x).length (ts (touchL x))) (hxf : ∃ A n c, vx = .slice A n c) (hxo : IdOk x.id) (hxs : (touchL x).length ≤ 1000000) :
    Calls Tryz.prog 110 #[mkd x vx (.slice C (touchL x).length e_), .pointer (some ⟨gm, 0, none⟩), .pointer (some ⟨gl, 0, none⟩), .pointer (some ⟨ga, 0, none⟩), .pointer (some ⟨go_, 0, none⟩)] w fun e w' => e = .returned (.bool (badI L o x)) ∧ Fr No w w' := by
  have HCL : Hid (∀ W, Fr No w W → Calls Tryz.prog 60 #[mkd x vx (.slice C (touchL x).length e_), mkd o vo (.slice B (touchL o).length d)] W fun e w' => e = .returned (.bool (clashB x o)) ∧ Fr No W w') := fun W hW => clashes_any F _ x o vx vo C B e_ d _ _ W (hx.fr (by omega) hW (fun _ _ _ h => h)) ((h.no hW).tc) hxs h.sm
  have HLF : Hid (∀ W, Fr No w W → Calls Tryz.prog 139 #[x.val vx, .pointer (some ⟨gw, 0, none⟩)] W fun e w' => e = .returned (.bool (leftB L x)) ∧ Fr No W w') := fun W hW => left_any x vx gw mw L W (h.no hW).wo hxo hxf
  have HL1 : Hid (∀ W, Fr No w W → _) := fun W hW => (h.no hW).mp.look1 x.id hxo
  have HL2 : Hid (∀ W, Fr No w W → _) := fun W hW => (h.no hW).mp.look1 o.id h.ok
  have HLC : Hid (∀ W, Fr No w W → W.cell? ⟨gl, 0, none⟩ = some (woV gw)) := fun W hW => (h.no hW).lf
  have HAC : Hid (∀ W, Fr No w W → W.cell? ⟨ga, 0, none⟩ = some (.map (some ma))) := fun W hW => (h.no hW).at_
  have hen : ∀ args W, (callFunc 139 args).run Tryz.prog W = .ok (.enter 139 args) W := enters_of Tryz.func139 (by kernel_rfl) rfl
  obtain ⟨t1, hmk⟩ := h.mkk
  obtain ⟨t2, hod⟩ := h.od
  obtain ⟨vA, vn, vc, rfl⟩ := hxf
  obtain ⟨oA, on, oc, rfl⟩ := h.vf
  unfold badI
  clear h hx hxo hxs
  generalize clashB x o = r1 at *
  generalize leftB L x = r2 at *
  generalize posO (posF L x.id) = p1 at *
  generalize posO (posF L o.id) = p2 at *
  generalize (touchL x).length = tn at *
  generalize (touchL o).length = sn at *
  obtain ⟨acl, asq, akd, aac, ape, asm, alg, apr, ahd, ant⟩ := x
  obtain ⟨bcl, bsq, bkd, bac, bpe, bsm, blg, bpr, bhd, bnt⟩ := o
  unfold mkd Od.val Od.cs Od.id at *
  simp only [List.cons_append, List.nil_append] at *
  have hbx := Blk.new w 84 #[.int .i64 acl, .int .i64 asq, .int .i64 akd, .string aac, .string ape, .int .i64 asm, .slice vA vn vc, .int .i64 apr, .int .i64 ahd, .string ant, .slice C tn e_]
  have hfw : Fr No w (w.alloc (.cells #[.int .i64 acl, .int .i64 asq, .int .i64 akd, .string aac, .string ape, .int .i64 asm, .slice vA vn vc, .int .i64 apr, .int .i64 ahd, .string ant, .slice C tn e_] 84)) := (Fr.refl _ _).alloc _
  go_enter Tryz.func110, Tryz.ntmps110
  go_upto_region 1 with (fail)
  generalize w.alloc (.cells #[.int .i64 acl, .int .i64 asq, .int .i64 akd, .string aac, .string ape, .int .i64 asm, .slice vA vn vc, .int .i64 apr, .int .i64 ahd, .string ant, .slice C tn e_] 84) = w2 at *
  have hne : Nonempty (WIn (Fr No w2)) := ⟨⟨_, Fr.refl _ _⟩⟩
  have HFW := Lib.hid hfw
  have x0 := fun x : WIn (Fr No w2) => (hbx.fr x.h (fun h => h)).cell 0
  have m0 := fun x : WIn (Fr No w2) => (hmk.fr (hfw.trans x.h) (fun h => h)).cell 0
  have x1 := fun x : WIn (Fr No w2) => (hbx.fr x.h (fun h => h)).cell 1
  have m1 := fun x : WIn (Fr No w2) => (hmk.fr (hfw.trans x.h) (fun h => h)).cell 1
  have x2 := fun x : WIn (Fr No w2) => (hbx.fr x.h (fun h => h)).cell 2
  have m2 := fun x : WIn (Fr No w2) => (hmk.fr (hfw.trans x.h) (fun h => h)).cell 2
  have x3 := fun x : WIn (Fr No w2) => (hbx.fr x.h (fun h => h)).cell 3
  have m3 := fun x : WIn (Fr No w2) => (hmk.fr (hfw.trans x.h) (fun h => h)).cell 3
  have x4 := fun x : WIn (Fr No w2) => (hbx.fr x.h (fun h => h)).cell 4
  have m4 := fun x : WIn (Fr No w2) => (hmk.fr (hfw.trans x.h) (fun h => h)).cell 4
  have x5 := fun x : WIn (Fr No w2) => (hbx.fr x.h (fun h => h)).cell 5
  have m5 := fun x : WIn (Fr No w2) => (hmk.fr (hfw.trans x.h) (fun h => h)).cell 5
  have x6 := fun x : WIn (Fr No w2) => (hbx.fr x.h (fun h => h)).cell 6
  have m6 := fun x : WIn (Fr No w2) => (hmk.fr (hfw.trans x.h) (fun h => h)).cell 6
  have x7 := fun x : WIn (Fr No w2) => (hbx.fr x.h (fun h => h)).cell 7
  have m7 := fun x : WIn (Fr No w2) => (hmk.fr (hfw.trans x.h) (fun h => h)).cell 7
  have x8 := fun x : WIn (Fr No w2) => (hbx.fr x.h (fun h => h)).cell 8
  have m8 := fun x : WIn (Fr No w2) => (hmk.fr (hfw.trans x.h) (fun h => h)).cell 8
  have x9 := fun x : WIn (Fr No w2) => (hbx.fr x.h (fun h => h)).cell 9
  have m9 := fun x : WIn (Fr No w2) => (hmk.fr (hfw.trans x.h) (fun h => h)).cell 9
  have x10 := fun x : WIn (Fr No w2) => (hbx.fr x.h (fun h => h)).cell 10
  have m10 := fun x : WIn (Fr No w2) => (hmk.fr (hfw.trans x.h) (fun h => h)).cell 10
  have o0 := fun x : WIn (Fr No w2) => (hod.fr (hfw.trans x.h) (fun h => h)).cell 0
  have o1 := fun x : WIn (Fr No w2) => (hod.fr (hfw.trans x.h) (fun h => h)).cell 1
  simp only [List.getElem?_toArray, List.getElem?_cons_zero, List.getElem?_cons_succ] at x0 m0 x1 m1 x2 m2 x3 m3 x4 m4 x5 m5 x6 m6 x7 m7 x8 m8 x9 m9 x10 m10 o0 o1
  have zl := fun x : WIn (Fr No w2) => HLC.out x.W (hfw.trans x.h)
  have za := fun x : WIn (Fr No w2) => HAC.out x.W (hfw.trans x.h)
  have zk1 := fun x : WIn (Fr No w2) => HL1.out x.W (hfw.trans x.h)
  have zk2 := fun x : WIn (Fr No w2) => HL2.out x.W (hfw.trans x.h)
  clear hmk hod hbx hfw HL1 HL2
  cases r1
  · refine wp_region_in (D := Fr No w2) (by kernel_rfl) (by kernel_rfl) (Fr.refl _ _).drew ?_
    repeat (go_big_quiet_step ((first | (go_at_call 60; refine Calls.in_of (v := .bool false) _ fun W hW => ?_; (with_reducible refine (HCL.out W (HFW.out.trans hW)).mono ?_); exact fun _ _ h => ⟨h.1, Fr.trans hW h.2⟩))))
    refine wpQuiet_nil ?_
    rintro _ ⟨⟨wq, hq⟩, rfl⟩
    go_wp2
    go_ret
    exact ⟨rfl, HFW.out.trans hq⟩
  · cases r2
    · refine wp_region_in (D := Fr No w2) (by kernel_rfl) (by kernel_rfl) (Fr.refl _ _).drew ?_
      repeat (go_big_quiet_step ((first | (go_at_call 60; refine Calls.in_of (v := .bool true) _ fun W hW => ?_; (with_reducible refine (HCL.out W (HFW.out.trans hW)).mono ?_); exact fun _ _ h => ⟨h.1, Fr.trans hW h.2⟩) | (go_at_call 139; refine Calls.in_of (v := .bool false) _ fun W hW => ?_; (with_reducible refine (HLF.out W (HFW.out.trans hW)).mono ?_); exact fun _ _ h => ⟨h.1, Fr.trans hW h.2⟩))))
      refine wpQuiet_nil ?_
      rintro _ ⟨⟨wq, hq⟩, rfl⟩
      go_wp2
      go_ret
      exact ⟨by simp, HFW.out.trans hq⟩
    · refine wp_region_in (D := Fr No w2) (by kernel_rfl) (by kernel_rfl) (Fr.refl _ _).drew ?_
      repeat (go_big_quiet_step ((first | (go_at_call 60; refine Calls.in_of (v := .bool true) _ fun W hW => ?_; (with_reducible refine (HCL.out W (HFW.out.trans hW)).mono ?_); exact fun _ _ h => ⟨h.1, Fr.trans hW h.2⟩) | (go_at_call 139; refine Calls.in_of (v := .bool true) _ fun W hW => ?_; (with_reducible refine (HLF.out W (HFW.out.trans hW)).mono ?_); exact fun _ _ h => ⟨h.1, Fr.trans hW h.2⟩))))
      refine wpQuiet_nil ?_
      rintro _ ⟨⟨wq, hq⟩, rfl⟩
      go_wp2
      go_ret
      exact ⟨rfl, HFW.out.trans hq⟩
end Go.Proofs.YtnphncemghfkbaaGreat

namespace Go.Proofs.YtnphncemghfkbaaGreat
open Go.RowKit Go.My Go.Maps Go.WideMaps
set_option linter.unusedSimpArgs false
set_option linter.unusedVariables false
attribute [local go_sem ↓] Go.wp_at_zero Go.wp_at_succ

/-- a marked order's cells -/
def MkR (w : World) (F : Nat → Prop) (cs : List Value) (x : Od) : Prop := ∃ A n c C e, cs = x.cs (.slice A n c) ++ [.slice C (touchL x).length e] ∧ IdOk x.id ∧ Rd w F 1 C (touchL x).length (ts (touchL x)) ∧ (touchL x).length ≤ 1000000
theorem elM : El Tryz.prog 136 84 11 144 := ⟨Tryz.underlying136, by
  have h : (Tryz.prog.info? 84).map (fun i => (i.zero, i.size, i.bytes)) = some (some (.agg #[.int .i64 0, .int .i64 0, .int .i64 0, .string ⟨#[]⟩, .string ⟨#[]⟩, .int .i64 0, .slice none 0 0, .int .i64 0, .int .i64 0, .string ⟨#[]⟩, .slice none 0 0]), 11, 144) := by kernel_rfl
  obtain ⟨i, hi, hz, hs, hb⟩ := info_parts h
  exact ⟨i, _, hi, hz, hs, hb, rfl⟩, by omega⟩
def MksS (w0 w : World) (F G : Nat → Prop) (A : Option Addr) (l : List Od) : Prop := ∃ cells, Rd w F 11 A l.length cells ∧ Each (MkR w0 G) 11 cells l
theorem MksS.at_ {w0 w : World} {F G : Nat → Prop} {A : Option Addr} {l : List Od} (h : MksS w0 w F G A l) (k : Nat) (hk : k < l.length) :
    ∃ ad B n c C e, A = some ad ∧ IdOk l[k].id ∧ Rd w0 G 1 C (touchL l[k]).length (ts (touchL l[k])) ∧ (touchL l[k]).length ≤ 1000000 ∧ w.cell? (ad.add (k * 11)) = some (.int .i64 l[k].cl) ∧ w.cell? ⟨(ad.add (k * 11)).block, (ad.add (k * 11)).off + 1, none⟩ = some (.int .i64 l[k].sq) ∧
      w.cell? ⟨(ad.add (k * 11)).block, (ad.add (k * 11)).off + 2, none⟩ = some (.int .i64 l[k].kd) ∧ w.cell? ⟨(ad.add (k * 11)).block, (ad.add (k * 11)).off + 3, none⟩ = some (.string l[k].acct) ∧
      w.cell? ⟨(ad.add (k * 11)).block, (ad.add (k * 11)).off + 4, none⟩ = some (.string l[k].peer) ∧ w.cell? ⟨(ad.add (k * 11)).block, (ad.add (k * 11)).off + 5, none⟩ = some (.int .i64 l[k].sum) ∧
      w.cell? ⟨(ad.add (k * 11)).block, (ad.add (k * 11)).off + 6, none⟩ = some (.slice B n c) ∧ w.cell? ⟨(ad.add (k * 11)).block, (ad.add (k * 11)).off + 7, none⟩ = some (.int .i64 l[k].per) ∧
      w.cell? ⟨(ad.add (k * 11)).block, (ad.add (k * 11)).off + 8, none⟩ = some (.int .i64 l[k].hold) ∧ w.cell? ⟨(ad.add (k * 11)).block, (ad.add (k * 11)).off + 9, none⟩ = some (.string l[k].note) ∧
      w.cell? ⟨(ad.add (k * 11)).block, (ad.add (k * 11)).off + 10, none⟩ = some (.slice C (touchL l[k]).length e) := by
  obtain ⟨cells, hr, hE⟩ := h
  obtain ⟨ad, rfl, hF, hc⟩ := hr.2 (by omega)
  obtain ⟨B, n, c, C, e, hcs, hok, hT, hS⟩ := hE.2 k l[k] (List.getElem?_eq_getElem hk)
  have hget : ∀ i, i < 11 → cells[k * 11 + i]? = (l[k].cs (.slice B n c) ++ [.slice C (touchL l[k]).length e])[i]? := fun i hi => by
    rw [← hcs, List.getElem?_take, if_pos hi, List.getElem?_drop]
  have hj : ∀ i, 0 < i → i < 11 → ∀ u, (l[k].cs (.slice B n c) ++ [.slice C (touchL l[k]).length e])[i]? = some u → w.cell? ⟨(ad.add (k * 11)).block, (ad.add (k * 11)).off + i, none⟩ = some u := fun i h0 hi u hu => by
    rw [← add_lits ad (k * 11) i h0]
    exact hc _ _ (by rw [hget i hi]; exact hu)
  refine ⟨ad, B, n, c, C, e, rfl, hok, hT, hS, hc (k * 11) _ (by have := hget 0 (by omega); rw [Nat.add_zero] at this; rw [this]; rfl), hj 1 (by omega) (by omega) _ rfl, hj 2 (by omega) (by omega) _ rfl, hj 3 (by omega) (by omega) _ rfl, hj 4 (by omega) (by omega) _ rfl, hj 5 (by omega) (by omega) _ rfl, hj 6 (by omega) (by omega) _ rfl, hj 7 (by omega) (by omega) _ rfl, hj 8 (by omega) (by omega) _ rfl, hj 9 (by omega) (by omega) _ rfl, hj 10 (by omega) (by omega) _ rfl⟩
theorem MksS.no {w0 w w' : World} {F G : Nat → Prop} {A : Option Addr} {l : List Od} (h : MksS w0 w F G A l) (hf : Fr No w w') : MksS w0 w' F G A l := by
  obtain ⟨cells, hr, hE⟩ := h
  exact ⟨cells, hr.fr (by omega) hf (fun _ _ _ h => h), hE⟩

/-- the first for which q holds -/
def idxO (q : Od → Bool) (L : List Od) : Int := match L.findIdx? q with | some i => (i : Int) | none => -1
def IxORel (w : World) (q : Od → Bool) (L : List Od) (iv : Value) (wr : World) : Prop := ∃ k : Nat, k ≤ L.length ∧ iv = .int .i64 k ∧ (∀ g ∈ L.take k, q g = false) ∧ Fr No w wr
abbrev msV (gm gl ga go_ : Nat) : Value := .func (.func 110) #[] #[.pointer (some ⟨gm, 0, none⟩), .pointer (some ⟨gl, 0, none⟩), .pointer (some ⟨ga, 0, none⟩), .pointer (some ⟨go_, 0, none⟩)]
set_option maxRecDepth 100000 in
set_option maxHeartbeats 1000000 in
theorem indexM_any (w : World) (F G : Nat → Prop) (A : Option Addr) (c : Nat) (l : List Od) (gm gl ga go_ gw mw ma : Nat) (L : List Idk) (o : Od) (vo : Value) (B : Option Addr) (d : Nat) (h : MsS w gm gl ga go_ gw mw ma L o vo B d)
    (hl : MksS w w F G A l) (hn : l.length ≤ 1000000) :
    Calls Tryz.prog 140 #[.slice A l.length c, msV gm gl ga go_] w fun e w' => e = .returned (.int .i64 (idxO (badI L o) l)) ∧ Fr No w w' := by
  have HR := Lib.hid hl
  have HM := Lib.hid h
  have hen : ∀ args W, (callFunc 110 args).run Tryz.prog W = .ok (.enter 110 args) W := enters_of Tryz.func110 (by kernel_rfl) rfl
  clear hl h
  generalize hq : badI L o = q at *
  go_enter Tryz.func140, Tryz.ntmps140
  go_wp2
  go_loopw [8] (fun iv wr => IxORel w q l iv wr) (fun iv _ => l.length - (intOf iv).toNat)
  case atStart => exact ⟨0, Nat.zero_le _, rfl, fun g hg => by simp at hg, Fr.refl _ _⟩
  case round =>
    obtain ⟨k, hk, rfl, hall, hfr⟩ := hrel
    have hk62 : (k : Int) ≤ 1000000 := by omega
    by_cases hlt : k < l.length
    · obtain ⟨ad, vA, vn, vc, C, e_, rfl, hok, hT, hS, q0, q1, q2, q3, q4, q5, q6, q7, q8, q9, q10⟩ := (HR.out.no hfr).at_ k hlt
      have HCK : Hid (∀ W, Fr No w W → Calls Tryz.prog 110 #[mkd l[k] (.slice vA vn vc) (.slice C (touchL l[k]).length e_), .pointer (some ⟨gm, 0, none⟩), .pointer (some ⟨gl, 0, none⟩), .pointer (some ⟨ga, 0, none⟩), .pointer (some ⟨go_, 0, none⟩)] W fun e w' => e = .returned (.bool (q l[k])) ∧ Fr No W w') := fun W hW => by
        rw [← hq]
        exact misplaced_any W gm gl ga go_ gw mw ma L o vo B d (HM.out.no hW) l[k] _ G C e_ (hT.fr (by omega) hW (fun _ _ _ h => h)) ⟨_, _, _, rfl⟩ hok hS
      have HFR := Lib.hid hfr
      have HT : Hid (q l[k] = true → idxO q l = (k : Int)) := fun h => by
        unfold idxO
        rw [List.findIdx?_eq_some_iff_getElem.2 ⟨hlt, h, fun j hj => by
          have := hall l[j] (List.mem_take_iff_getElem.2 ⟨j, by omega, rfl⟩)
          simp [this]⟩]
      have HN : Hid (q l[k] = false → ∀ g ∈ l.take (k + 1), q g = false) := fun h g hg => by
        rw [List.take_succ_eq_append_getElem hlt, List.mem_append] at hg
        rcases hg with hg | hg
        · exact hall g hg
        · rw [List.mem_singleton.1 hg]; exact h
      have HLT : Hid (k + 1 ≤ l.length) := hlt
      unfold mkd Od.cs at HCK
      simp only [List.cons_append, List.nil_append] at HCK
      generalize (touchL l[k]).length = tn at *
      generalize l[k].cl = cl at *
      generalize l[k].sq = sq at *
      generalize l[k].kd = kd at *
      generalize l[k].acct = acct at *
      generalize l[k].peer = peer at *
      generalize l[k].sum = sum at *
      generalize l[k].per = per at *
      generalize l[k].hold = hold at *
      generalize l[k].note = note at *
      clear hall hfr hok hT hS
      generalize l[k] = xk at *
      rcases (Bool.eq_false_or_eq_true (q xk)).symm with hb | hb
      · rw [hb] at HCK
        have HN2 := Lib.hid (HN.out hb)
        clear HT HN hb
        go_wp2_with fail
        (with_reducible refine (HCK.out _ HFR.out).mono ?_)
        rintro e w1 ⟨rfl, hf1⟩
        clear q0 q1 q2 q3 q4 q5 q6 q7 q8 q9 q10
        go_wp2
        go_roundw
        case rel => exact ⟨k + 1, HLT.out, by go_num, HN2.out, HFR.out.trans hf1⟩
        case measure => have := HLT.out; simp [intOf]; omega
      · rw [hb] at HCK
        have HT2 := Lib.hid (HT.out hb)
        clear HT HN hb
        go_wp2_with fail
        (with_reducible refine (HCK.out _ HFR.out).mono ?_)
        rintro e w1 ⟨rfl, hf1⟩
        clear q0 q1 q2 q3 q4 q5 q6 q7 q8 q9 q10
        go_wp2
        go_ret
        exact ⟨by rw [HT2.out]; rfl, HFR.out.trans hf1⟩
    · obtain rfl : k = l.length := by omega
      have HF : Hid (idxO q l = -1) := by
        show _ = _
        unfold idxO
        rw [List.take_length] at hall
        rw [List.findIdx?_eq_none_iff.2 hall]
      go_wp2
      go_ret
      exact ⟨by rw [HF.out]; rfl, hfr⟩
theorem containsM_any (w : World) (F G : Nat → Prop) (A : Option Addr) (c : Nat) (l : List Od) (gm gl ga go_ gw mw ma : Nat) (L : List Idk) (o : Od) (vo : Value) (B : Option Addr) (d : Nat) (h : MsS w gm gl ga go_ gw mw ma L o vo B d)
    (hl : MksS w w F G A l) (hn : l.length ≤ 1000000) :
    Calls Tryz.prog 111 #[.slice A l.length c, msV gm gl ga go_] w fun e w' => e = .returned (.bool (l.any (badI L o))) ∧ Fr No w w' := by
  have HX := Lib.hid (indexM_any w F G A c l gm gl ga go_ gw mw ma L o vo B d h hl hn)
  have HA : Hid (decide (0 ≤ idxO (badI L o) l) = l.any (badI L o)) := by
    show _ = _
    unfold idxO
    cases h : l.findIdx? (badI L o) with
    | none =>
      rw [List.findIdx?_eq_none_iff] at h
      simp only
      rw [List.any_eq_false.2 (fun x hx => by rw [h x hx]; decide)]
      rfl
    | some i =>
      obtain ⟨hlt, hi, _⟩ := List.findIdx?_eq_some_iff_getElem.1 h
      simp only
      rw [List.any_eq_true.2 ⟨l[i], List.getElem_mem hlt, hi⟩]
      exact decide_eq_true (by omega)
  clear h hl
  go_enter Tryz.func111, Tryz.ntmps111
  go_wp2_with fail
  (with_reducible refine HX.out.mono ?_)
  rintro e w1 ⟨rfl, hf1⟩
  go_wp2
  go_ret
  exact ⟨by rw [← HA.out]; rfl, hf1⟩
end Go.Proofs.YtnphncemghfkbaaGreat

namespace Go.Proofs.YtnphncemghfkbaaGreat
open Go.RowKit Go.My Go.Maps Go.WideMaps
set_option linter.unusedSimpArgs false
set_option linter.unusedVariables false
attribute [local go_sem ↓] Go.wp_at_zero Go.wp_at_succ

/-- a row of the call's own that holds marked orders -/
def OwnM (B : Nat) (w : World) (v : Value) (l : List Od) : Prop := ∃ cells, Own w 84 11 v l.length cells ∧ Each (MkR w (New B w v.ownBlock)) 11 cells l
theorem MkR.to {w w' : World} {F G S : Nat → Prop} {cs : List Value} {x : Od} (h : MkR w F cs x) (hf : Fr S w w') (hn : ∀ k, F k → k < w.heap.size → ¬ S k) (hG : ∀ k, F k → G k) : MkR w' G cs x := by
  obtain ⟨A, n, c, C, e, h1, h2, h3, h4⟩ := h
  exact ⟨A, n, c, C, e, h1, h2, (h3.fr (by omega) hf hn).more hG, h4⟩
theorem OwnM.nil (B : Nat) (w : World) : OwnM B w (.slice none 0 0) [] := ⟨[], Own.nil _ _ _, ⟨rfl, fun i x hx => by simp at hx⟩⟩
theorem OwnM.form {B : Nat} {w : World} {v : Value} {l : List Od} (h : OwnM B w v l) : ∃ A c, v = .slice A l.length c ∧ l.length ≤ c ∧ c ≤ maxLen := by
  obtain ⟨cells, ho, _⟩ := h
  exact ho.form
theorem OwnM.no {B : Nat} {w w' : World} {v : Value} {l : List Od} (h : OwnM B w v l) (hf : Fr No w w') : OwnM B w' v l := by
  obtain ⟨cells, ho, hE⟩ := h
  exact ⟨cells, ho.fr hf (fun _ _ h => h), each_imp hE fun cs o h => h.to hf (fun _ _ _ h => h) fun k hk => ⟨hk.1, Nat.lt_of_lt_of_le hk.2.1 hf.size, hk.2.2⟩⟩
theorem OwnM.mks {B : Nat} {w : World} {A : Option Addr} {m c : Nat} {l : List Od} (h : OwnM B w (.slice A m c) l) : MksS w w (fun k => (Value.slice A m c).ownBlock = some k) (New B w (Value.slice A m c).ownBlock) A l := by
  obtain ⟨cells, ho, hE⟩ := h
  exact ⟨cells, ho.rd, hE⟩
theorem eachM_put {B : Nat} {w wa w1 w2 w3 : World} {g g1 : Option Nat} {cells cs : List Value} {l : List Od} {o : Od} (hB : B ≤ wa.heap.size) (hE : Each (MkR w (New B w g)) 11 cells l) (hg : ∀ k, g = some k → k < w.heap.size)
    (h1 : Fr No w wa) (h2 : Fr No wa w1) (hL : MkR w1 (New wa.heap.size w1 none) cs o) (h3 : Fr No w1 w2) (h4 : Fr (AtO g) w2 w3) (hn : g1 = g ∨ g1 = some w2.heap.size) :
    Each (MkR w3 (New B w3 g1)) 11 (cells ++ cs) (l ++ [o]) := by
  have s1 := h1.size
  have s2 := h2.size
  have s3 := h3.size
  have s4 := h4.size
  have e1 : ∀ k, New B w g k → New B w3 g1 k := fun k hk => by
    obtain ⟨k1, k2, k3⟩ := hk
    refine ⟨k1, by omega, fun e => ?_⟩
    rcases hn with rfl | rfl
    · exact k3 e
    · simp only [Option.some.injEq] at e
      omega
  have e2 : ∀ k, New wa.heap.size w1 none k → New B w3 g1 k := fun k hk => by
    obtain ⟨k1, k2, k3⟩ := hk
    refine ⟨by omega, by omega, fun e => ?_⟩
    rcases hn with rfl | rfl
    · have := hg k e
      omega
    · simp only [Option.some.injEq] at e
      omega
  have hE1 : Each (MkR w3 (New B w3 g1)) 11 cells l := each_imp hE fun cs o h => (h.to ((h1.trans h2).trans h3) (fun _ _ _ h => h) (fun _ h => h)).to h4 (fun k hk _ e => hk.2.2 e) e1
  have hlen : cs.length = 11 := by
    obtain ⟨A, n, c, C, e, rfl, _⟩ := hL
    rfl
  refine each_snoc hE1 (by omega) hlen ((hL.to h3 (fun _ _ _ h => h) (fun _ h => h)).to h4 (fun k hk _ e => ?_) e2)
  have := hg k e
  have := hk.1
  omega
theorem left_eq (a : List Od) (o : Od) : leftB (idsO a) o = !decide (o.id ∈ idsO a) := by unfold leftB; rw [posF_isSome]
def BgRel (w : World) (a b : List Od) (lv iv : Value) (wr : World) : Prop := ∃ k : Nat, k ≤ b.length ∧ iv = .int .i64 k ∧ OwnM w.heap.size wr lv (b.take k) ∧ Fr No w wr ∧ Newer w.heap.size none lv.ownBlock ∧ ∀ j o, j < k → b[j]? = some o → okAt a (b.take j) o = true
set_option maxRecDepth 100000 in
set_option maxHeartbeats 4000000 in
theorem begins_any (w : World) (F G : Nat → Prop) (A B : Option Addr) (c d : Nat) (a b : List Od) (ha : OdsS w w F A a) (hb : OdsS w w G B b) (hn : a.length ≤ 1000000) (hm : b.length ≤ 1000000) (hs : ∀ o ∈ b, o.legs.length ≤ 100000) :
    Calls Tryz.prog 82 #[.slice A a.length c, .slice B b.length d] w fun e w' => e = .returned (.bool (begB a b)) ∧ Fr No w w' := by
  have HP := Lib.hid (positions_any w w F A c a ha hn)
  have HW : Hid (∀ W, Fr No w W → _) := fun W hW => without_any w W F A c a (ha.fr hW (fun _ _ _ h => h)) hn
  have HB := Lib.hid hb
  have HS := Lib.hid hs
  have hen : ∀ args W, (callFunc 139 args).run Tryz.prog W = .ok (.enter 139 args) W := enters_of Tryz.func139 (by kernel_rfl) rfl
  clear ha hb hs
  go_enter Tryz.func82, Tryz.ntmps82
  go_wp2_with fail
  (with_reducible refine HP.out.mono ?_)
  rintro e w1 ⟨ma, rfl, hm1, hf1, -⟩
  have HM1 := Lib.hid hm1
  have HF1 := Lib.hid hf1
  clear hm1 hf1 HP
  go_wp2_with fail
  (with_reducible refine (HW.out _ HF1.out).mono ?_)
  rintro e w2 ⟨gw, mw, rfl, hw2, hf2⟩
  have hba := (Blk.new w2 87 #[.map (some ma)]).alloc (.cells #[woV gw] 89)
  have hbl := Blk.new (w2.alloc (.cells #[.map (some ma)] 87)) 89 #[woV gw]
  rw [World.size_alloc] at hbl
  have hfa : Fr No w2 ((w2.alloc (.cells #[.map (some ma)] 87)).alloc (.cells #[woV gw] 89)) := ((Fr.refl _ _).alloc _).alloc _
  have HWO : Hid (WoS ((w2.alloc (.cells #[.map (some ma)] 87)).alloc (.cells #[woV gw] 89)) gw mw (idsO a)) := hw2.no hfa
  have HMA : Hid (IMp ((w2.alloc (.cells #[.map (some ma)] 87)).alloc (.cells #[woV gw] 89)) ma (idsO a)) := HM1.out.fr (hf2.trans hfa) (fun h => h)
  have HF3 : Hid (Fr No w ((w2.alloc (.cells #[.map (some ma)] 87)).alloc (.cells #[woV gw] 89))) := (HF1.out.trans hf2).trans hfa
  have HBA : Hid (((w2.alloc (.cells #[.map (some ma)] 87)).alloc (.cells #[woV gw] 89)).cell? ⟨w2.heap.size, 0, none⟩ = some (.map (some ma))) := hba.cell 0
  have HBL : Hid (((w2.alloc (.cells #[.map (some ma)] 87)).alloc (.cells #[woV gw] 89)).cell? ⟨w2.heap.size + 1, 0, none⟩ = some (woV gw)) := hbl.cell 0
  clear hba hbl hfa hw2 hf2 HM1 HW
  go_upto_region 2 with (fail)
  generalize ((w2.alloc (.cells #[.map (some ma)] 87)).alloc (.cells #[woV gw] 89)) = w3 at *
  generalize w2.heap.size = ga at *
  generalize hgl : ga + 1 = gl at *
  clear hgl
  go_wp2
  go_loopw [7, 18] (fun lv iv wr => BgRel w3 a b lv iv wr) (fun _ iv _ => b.length - (intOf iv).toNat)
  case atStart => exact ⟨0, Nat.zero_le _, rfl, OwnM.nil _ _, Fr.refl _ _, .inl rfl, fun j o h => by omega⟩
  case round =>
    obtain ⟨k, hk, rfl, hown, hfr, hnew, hall⟩ := hrel
    have hk62 : (k : Int) ≤ 1000000 := by omega
    have hfw : Fr No w wr := HF3.out.trans hfr
    by_cases hlt : k < b.length
    · obtain ⟨ad, v, rfl, _, hok, hg, hL, q0, q1, q2, q3, q4, q5, q6, q7, q8, q9⟩ := (HB.out.fr hfw (fun _ _ _ h => h)).at_ k hlt
      obtain ⟨vB, vd, rfl, hd1, hd2⟩ := hL.form
      have HTK : Hid (b.take (k + 1) = b.take k ++ [b[k]]) := List.take_succ_eq_append_getElem hlt
      have HLK : Hid ((b.take k).length = k) := by show _ = _; rw [List.length_take]; omega
      have HLT : Hid (k + 1 ≤ b.length) := hlt
      have HFR := Lib.hid hfr
      have HFW := Lib.hid hfw
      have HNW := Lib.hid hnew
      have HOWN := Lib.hid hown
      have HST : Hid (okAt a (b.take k) b[k] = true → ∀ j o, j < k + 1 → b[j]? = some o → okAt a (b.take j) o = true) := fun h j o hj ho => by
        rcases Nat.lt_or_ge j k with h1 | h1
        · exact hall j o h1 ho
        · obtain rfl : j = k := by omega
          rw [List.getElem?_eq_getElem hlt] at ho
          injection ho with ho
          rw [← ho]
          exact h
      have HBD : Hid (okAt a (b.take k) b[k] = false → begB a b = false) := fun h => by
        unfold begB
        rw [List.all_eq_false]
        refine ⟨k, List.mem_range.2 hlt, ?_⟩
        rw [List.getElem?_eq_getElem hlt]
        show ¬ okAt a (b.take k) b[k] = true
        rw [h]
        decide
      have HLF : Hid (∀ W, Fr No w3 W → Calls Tryz.prog 139 #[b[k].val (.slice vB b[k].legs.length vd), .pointer (some ⟨gw, 0, none⟩)] W fun e w' => e = .returned (.bool (leftB (idsO a) b[k])) ∧ Fr No W w') := fun W hW => left_any b[k] _ gw mw (idsO a) W (HWO.out.no hW) ⟨hok.1, hok.2.1⟩ ⟨_, _, _, rfl⟩
      have HMK : Hid (∀ W, Fr No w W → Calls Tryz.prog 59 #[b[k].val (.slice vB b[k].legs.length vd)] W (MarkRet W (mkd b[k] (.slice vB b[k].legs.length vd)) (touchL b[k]))) := fun W hW => mark_any _ b[k] _ W (hL.no hW) (HS.out _ (List.getElem_mem hlt))
      have HSM : Hid ((touchL b[k]).length ≤ 1000000) := by
        show _ ≤ _
        have := touch_len b[k]
        have := HS.out _ (List.getElem_mem hlt)
        omega
      have HMS : Hid (∀ (W : World) (gm go_ : Nat) (C : Option Addr) (e_ : Nat), Fr No w3 W → (∃ t, Blk W gm t (b[k].cs (.slice vB b[k].legs.length vd) ++ [Value.slice C (touchL b[k]).length e_]).toArray) → (∃ t, Blk W go_ t (b[k].cs (.slice vB b[k].legs.length vd)).toArray) → Rd W (fun _ => True) 1 C (touchL b[k]).length (ts (touchL b[k])) → MsS W gm gl ga go_ gw mw ma (idsO a) b[k] (.slice vB b[k].legs.length vd) C e_) := fun W gm go_ C e_ hW h1 h2 h3 => {
        mkk := h1
        lf := hW.cell_some HBL.out (fun h => h)
        wo := HWO.out.no hW
        at_ := hW.cell_some HBA.out (fun h => h)
        mp := HMA.out.fr hW (fun h => h)
        od := h2
        tc := h3
        vf := ⟨_, _, _, rfl⟩
        ok := ⟨hok.1, hok.2.1⟩
        sm := HSM.out }
      have HEP : Hid (∀ (wa w1 w2 w4 : World) (g g1 : Option Nat) (cells : List Value) (C : Option Addr) (e_ : Nat), Each (MkR wr (New w3.heap.size wr g)) 11 cells (b.take k) → (∀ k, g = some k → k < wr.heap.size) → w3.heap.size ≤ wa.heap.size → Fr No wr wa → Fr No wa w1 → Rd w1 (New wa.heap.size w1 none) 1 C (touchL b[k]).length (ts (touchL b[k])) → Fr No w1 w2 → Fr (AtO g) w2 w4 → (g1 = g ∨ g1 = some w2.heap.size) → Each (MkR w4 (New w3.heap.size w4 g1)) 11 (cells ++ (b[k].cs (.slice vB b[k].legs.length vd) ++ [Value.slice C (touchL b[k]).length e_])) (b.take k ++ [b[k]])) := fun wa w1 w2 w4 g g1 cells C e_ h0 hlt hB h1 h2 h3 h4 h5 h6 => eachM_put hB h0 hlt h1 h2 ⟨_, _, _, C, e_, rfl, ⟨hok.1, hok.2.1⟩, h3, HSM.out⟩ h4 h5 h6
      have HOK : Hid (okAt a (b.take k) b[k] = !(!(leftB (idsO a) b[k]) && (b.take k).any (badI (idsO a) b[k]))) := by
        show _ = _
        unfold okAt
        rw [left_eq, Bool.not_not]
        congr 3
        funext x
        rw [badI_eq]
      unfold MarkRet mkd Od.val Od.cs at HMK
      unfold Od.val Od.cs at HLF
      unfold Od.cs at HMS HEP
      simp only [List.cons_append, List.nil_append] at HMK HLF HMS HEP
      generalize okAt a (b.take k) b[k] = okk at *
      generalize leftB (idsO a) b[k] = lf at *
      clear hok hg hL hall hfr hfw hnew
      have HCN : Hid (∀ (W : World) (A : Option Addr) (c gm go_ : Nat) (C : Option Addr) (e_ : Nat), MksS W W (fun j => (Value.slice A k c).ownBlock = some j) (New w3.heap.size W (Value.slice A k c).ownBlock) A (b.take k) → MsS W gm gl ga go_ gw mw ma (idsO a) b[k] (.slice vB b[k].legs.length vd) C e_ → Calls Tryz.prog 111 #[.slice A k c, msV gm gl ga go_] W fun e w' => e = .returned (.bool ((b.take k).any (badI (idsO a) b[k]))) ∧ Fr No W w') := fun W A c gm go_ C e_ h1 h2 => by
        have h := containsM_any W _ _ A c (b.take k) gm gl ga go_ gw mw ma (idsO a) b[k] _ C e_ h2 h1 (by rw [HLK.out]; omega)
        rw [HLK.out] at h
        exact h
      generalize (b.take k).any (badI (idsO a) b[k]) = an at *
      generalize (touchL b[k]).length = tn at *
      generalize b[k].legs.length = vn at *
      generalize b[k].cl = cl at *
      generalize b[k].sq = sq at *
      generalize b[k].kd = kd at *
      generalize b[k].acct = acct at *
      generalize b[k].peer = peer at *
      generalize b[k].sum = sum at *
      generalize b[k].per = per at *
      generalize b[k].hold = hold at *
      generalize b[k].note = note at *
      go_wp2_with fail
      (with_reducible refine (HMK.out _ (HFW.out.alloc _)).mono ?_)
      rintro e w4 ⟨C, e_, rfl, ho4, -, -, hf4, hn4⟩
      have hbo4 := (Blk.new wr 47 #[.int .i64 cl, .int .i64 sq, .int .i64 kd, .string acct, .string peer, .int .i64 sum, .slice vB vn vd, .int .i64 per, .int .i64 hold, .string note]).fr hf4 (fun h => h)
      have HT4 : Hid (Rd w4 (New (wr.heap.size + 1) w4 none) 1 C tn (ts (touchL b[k]))) := (ho4.rd.lt (by omega)).more fun j hj => ⟨by have := hn4 j hj.1; rw [World.size_alloc] at this; exact this, hj.2, fun h => by cases h⟩
      have HBO : Hid (Blk (w4.alloc (.cells #[.int .i64 cl, .int .i64 sq, .int .i64 kd, .string acct, .string peer, .int .i64 sum, .slice vB vn vd, .int .i64 per, .int .i64 hold, .string note, .slice C tn e_] 84)) wr.heap.size 47 #[.int .i64 cl, .int .i64 sq, .int .i64 kd, .string acct, .string peer, .int .i64 sum, .slice vB vn vd, .int .i64 per, .int .i64 hold, .string note]) := hbo4.alloc _
      have HBM : Hid (Blk (w4.alloc (.cells #[.int .i64 cl, .int .i64 sq, .int .i64 kd, .string acct, .string peer, .int .i64 sum, .slice vB vn vd, .int .i64 per, .int .i64 hold, .string note, .slice C tn e_] 84)) w4.heap.size 84 #[.int .i64 cl, .int .i64 sq, .int .i64 kd, .string acct, .string peer, .int .i64 sum, .slice vB vn vd, .int .i64 per, .int .i64 hold, .string note, .slice C tn e_]) := Blk.new _ _ _
      have HF45 : Hid (Fr No (wr.alloc (.cells #[.int .i64 cl, .int .i64 sq, .int .i64 kd, .string acct, .string peer, .int .i64 sum, .slice vB vn vd, .int .i64 per, .int .i64 hold, .string note] 47)) (w4.alloc (.cells #[.int .i64 cl, .int .i64 sq, .int .i64 kd, .string acct, .string peer, .int .i64 sum, .slice vB vn vd, .int .i64 per, .int .i64 hold, .string note, .slice C tn e_] 84))) := hf4.alloc _
      have HR5 : Hid (Fr No wr (w4.alloc (.cells #[.int .i64 cl, .int .i64 sq, .int .i64 kd, .string acct, .string peer, .int .i64 sum, .slice vB vn vd, .int .i64 per, .int .i64 hold, .string note, .slice C tn e_] 84))) := (((Fr.refl No wr).alloc _).trans hf4).alloc _
      have HTC : Hid (Rd (w4.alloc (.cells #[.int .i64 cl, .int .i64 sq, .int .i64 kd, .string acct, .string peer, .int .i64 sum, .slice vB vn vd, .int .i64 per, .int .i64 hold, .string note, .slice C tn e_] 84)) (New (wr.alloc (.cells #[.int .i64 cl, .int .i64 sq, .int .i64 kd, .string acct, .string peer, .int .i64 sum, .slice vB vn vd, .int .i64 per, .int .i64 hold, .string note] 47)).heap.size (w4.alloc (.cells #[.int .i64 cl, .int .i64 sq, .int .i64 kd, .string acct, .string peer, .int .i64 sum, .slice vB vn vd, .int .i64 per, .int .i64 hold, .string note, .slice C tn e_] 84)) none) 1 C tn (ts (touchL b[k]))) := (HT4.out.fr (S := No) (by omega) ((Fr.refl _ _).alloc _) (fun _ _ _ h => h)).more fun j hj => ⟨by rw [World.size_alloc]; exact hj.1, by rw [World.size_alloc]; have := hj.2.1; omega, hj.2.2⟩
      have HMS5 := Lib.hid (HMS.out (w4.alloc (.cells #[.int .i64 cl, .int .i64 sq, .int .i64 kd, .string acct, .string peer, .int .i64 sum, .slice vB vn vd, .int .i64 per, .int .i64 hold, .string note, .slice C tn e_] 84)) w4.heap.size wr.heap.size C e_ (HFR.out.trans HR5.out) ⟨_, HBM.out⟩ ⟨_, HBO.out⟩ (HTC.out.more fun _ _ => trivial))
      clear ho4 hf4 hn4 hbo4 HT4 q0 q1 q2 q3 q4 q5 q6 q7 q8 q9
      go_upto_region 8 with (fail)
      have HW5 : Hid (Fr No w3 (w4.alloc (.cells #[.int .i64 cl, .int .i64 sq, .int .i64 kd, .string acct, .string peer, .int .i64 sum, .slice vB vn vd, .int .i64 per, .int .i64 hold, .string note, .slice C tn e_] 84))) := HFR.out.trans HR5.out
      have hzl := HMS5.out.lf
      have hbo := HBO.out
      have x0 := hbo.cell 0
      have x1 := hbo.cell 1
      have x2 := hbo.cell 2
      have x3 := hbo.cell 3
      have x4 := hbo.cell 4
      have x5 := hbo.cell 5
      have x6 := hbo.cell 6
      have x7 := hbo.cell 7
      have x8 := hbo.cell 8
      have x9 := hbo.cell 9
      simp only [List.getElem?_toArray, List.getElem?_cons_zero, List.getElem?_cons_succ] at x0 x1 x2 x3 x4 x5 x6 x7 x8 x9
      clear hbo
      generalize hgm : w4.heap.size = gm at *
      generalize w4.alloc (.cells #[.int .i64 cl, .int .i64 sq, .int .i64 kd, .string acct, .string peer, .int .i64 sum, .slice vB vn vd, .int .i64 per, .int .i64 hold, .string note, .slice C tn e_] 84) = w5 at *
      clear hgm
      cases lf
      · cases an
        · have hok1 : okk = true := HOK.out
          subst hok1
          clear HBD
          go_wp2_with fail
          (with_reducible refine (HLF.out _ HW5.out).mono ?_)
          rintro e w6 ⟨rfl, hf6⟩
          clear x0 x1 x2 x3 x4 x5 x6 x7 x8 x9 hzl
          obtain ⟨oA, oc, hlv, -, -⟩ := HOWN.out.form
          rw [HLK.out] at hlv
          subst hlv
          have HC6 := Lib.hid (HCN.out w6 oA oc gm wr.heap.size C e_ ((HOWN.out.no HR5.out).no hf6).mks (HMS5.out.no hf6))
          go_wp2_with fail
          (with_reducible refine HC6.out.mono ?_)
          rintro e w7 ⟨rfl, hf7⟩
          have HX : Hid (Fr No w5 w7) := hf6.trans hf7
          clear hf6 hf7 HC6
          have HO6 : Hid (OwnM w3.heap.size w7 _ (b.take k)) := (HOWN.out.no HR5.out).no HX.out
          have hbm := HBM.out.fr HX.out (fun h => h)
          have m0 := hbm.cell 0
          have m1 := hbm.cell 1
          have m2 := hbm.cell 2
          have m3 := hbm.cell 3
          have m4 := hbm.cell 4
          have m5 := hbm.cell 5
          have m6 := hbm.cell 6
          have m7 := hbm.cell 7
          have m8 := hbm.cell 8
          have m9 := hbm.cell 9
          have m10 := hbm.cell 10
          simp only [List.getElem?_toArray, List.getElem?_cons_zero, List.getElem?_cons_succ] at m0 m1 m2 m3 m4 m5 m6 m7 m8 m9 m10
          clear hbm
          obtain ⟨cells, hown6, hE6⟩ := HO6.out
          obtain ⟨cells0, hown0, hE0⟩ := HOWN.out
          have HE0 := Lib.hid hE0
          have HO0 := Lib.hid hown0
          have HW6 := Lib.hid (hown0.fr (HR5.out.trans HX.out) (fun _ _ h => h))
          clear hown6 hE6 hown0 hE0
          go_wp2_with (at_builtin; refine wpList_app _ rfl (.tmp 34) (.tmp 36) 136 136 rfl elM (HW6.out.alloc _) rfl (Src.of_new (cs := #[.int .i64 cl, .int .i64 sq, .int .i64 kd, .string acct, .string peer, .int .i64 sum, .slice vB vn vd, .int .i64 per, .int .i64 hold, .string note, .slice C tn e_]) (t := 84) w7.heap.size (heap_alloc_new w7 _) Tryz.underlying136 rfl (by simp [Value.oneCell'])) rfl (by rw [HLK.out]; simp only [maxLen]; omega) (by rw [HLK.out]; omega) ?_; intro v1 w8 hown8 hfr8 hnew8)
          go_roundw
          case rel =>
            refine ⟨k + 1, HLT.out, by go_num, ?_, ?_, ?_, HST.out (by first | rfl | trivial)⟩
            · rw [HTK.out]
              refine ⟨_, by rw [List.length_append]; exact hown8, ?_⟩
              exact HEP.out _ _ _ _ _ _ _ _ _ HE0.out HO0.out.lt (by have := HFR.out.size; rw [World.size_alloc]; omega) ((Fr.refl _ _).alloc _) HF45.out HTC.out (HX.out.alloc _) hfr8 hnew8
            · refine (((HFR.out.trans HR5.out).trans HX.out).alloc _).trans' hfr8 fun i hi hlt => ?_
              have hi : _ = some i := hi
              have := newer_none HNW.out i hi
              omega
            · refine HNW.out.trans (Newer.of hnew8) ?_
              rw [World.size_alloc]
              have h1 := HR5.out.size
              have h2 := HX.out.size
              have := HFR.out.size
              omega
          case measure => have := HLT.out; simp [intOf]; omega
        · have hok1 : okk = false := HOK.out
          subst hok1
          have HBE := Lib.hid (HBD.out rfl)
          clear HBD HST
          go_wp2_with fail
          (with_reducible refine (HLF.out _ HW5.out).mono ?_)
          rintro e w6 ⟨rfl, hf6⟩
          clear x0 x1 x2 x3 x4 x5 x6 x7 x8 x9 hzl
          obtain ⟨oA, oc, hlv, -, -⟩ := HOWN.out.form
          rw [HLK.out] at hlv
          subst hlv
          have HC6 := Lib.hid (HCN.out w6 oA oc gm wr.heap.size C e_ ((HOWN.out.no HR5.out).no hf6).mks (HMS5.out.no hf6))
          go_wp2_with fail
          (with_reducible refine HC6.out.mono ?_)
          rintro e w7 ⟨rfl, hf7⟩
          go_wp2
          go_ret
          exact ⟨by rw [HBE.out]; rfl, (HFW.out.trans HR5.out).trans (hf6.trans hf7)⟩
      · have hok1 : okk = true := by rw [HOK.out]; cases an <;> rfl
        subst hok1
        clear HBD
        go_wp2_with fail
        (with_reducible refine (HLF.out _ HW5.out).mono ?_)
        rintro e w6 ⟨rfl, hf6⟩
        have HX := Lib.hid hf6
        clear x0 x1 x2 x3 x4 x5 x6 x7 x8 x9 hzl hf6
        have HO6 : Hid (OwnM w3.heap.size w6 _ (b.take k)) := (HOWN.out.no HR5.out).no HX.out
        have hbm := HBM.out.fr HX.out (fun h => h)
        have m0 := hbm.cell 0
        have m1 := hbm.cell 1
        have m2 := hbm.cell 2
        have m3 := hbm.cell 3
        have m4 := hbm.cell 4
        have m5 := hbm.cell 5
        have m6 := hbm.cell 6
        have m7 := hbm.cell 7
        have m8 := hbm.cell 8
        have m9 := hbm.cell 9
        have m10 := hbm.cell 10
        simp only [List.getElem?_toArray, List.getElem?_cons_zero, List.getElem?_cons_succ] at m0 m1 m2 m3 m4 m5 m6 m7 m8 m9 m10
        clear hbm
        obtain ⟨cells, hown6, hE6⟩ := HO6.out
        obtain ⟨cells0, hown0, hE0⟩ := HOWN.out
        have HE0 := Lib.hid hE0
        have HO0 := Lib.hid hown0
        have HW6 := Lib.hid (hown0.fr (HR5.out.trans HX.out) (fun _ _ h => h))
        clear hown6 hE6 hown0 hE0
        go_wp2_with (at_builtin; refine wpList_app _ rfl (.tmp 34) (.tmp 36) 136 136 rfl elM (HW6.out.alloc _) rfl (Src.of_new (cs := #[.int .i64 cl, .int .i64 sq, .int .i64 kd, .string acct, .string peer, .int .i64 sum, .slice vB vn vd, .int .i64 per, .int .i64 hold, .string note, .slice C tn e_]) (t := 84) w6.heap.size (heap_alloc_new w6 _) Tryz.underlying136 rfl (by simp [Value.oneCell'])) rfl (by rw [HLK.out]; simp only [maxLen]; omega) (by rw [HLK.out]; omega) ?_; intro v1 w8 hown8 hfr8 hnew8)
        go_roundw
        case rel =>
          refine ⟨k + 1, HLT.out, by go_num, ?_, ?_, ?_, HST.out (by first | rfl | trivial)⟩
          · rw [HTK.out]
            refine ⟨_, by rw [List.length_append]; exact hown8, ?_⟩
            exact HEP.out _ _ _ _ _ _ _ _ _ HE0.out HO0.out.lt (by have := HFR.out.size; rw [World.size_alloc]; omega) ((Fr.refl _ _).alloc _) HF45.out HTC.out (HX.out.alloc _) hfr8 hnew8
          · refine (((HFR.out.trans HR5.out).trans HX.out).alloc _).trans' hfr8 fun i hi hlt => ?_
            have hi : _ = some i := hi
            have := newer_none HNW.out i hi
            omega
          · refine HNW.out.trans (Newer.of hnew8) ?_
            rw [World.size_alloc]
            have h1 := HR5.out.size
            have h2 := HX.out.size
            have := HFR.out.size
            omega
        case measure => have := HLT.out; simp [intOf]; omega
    · obtain rfl : k = b.length := by omega
      have HE : Hid (begB a b = true) := by
        show _ = _
        unfold begB
        rw [List.all_eq_true]
        intro j hj
        have hj := List.mem_range.1 hj
        rw [List.getElem?_eq_getElem hj]
        exact hall j _ hj (List.getElem?_eq_getElem hj)
      clear hall
      go_wp2
      go_ret
      exact ⟨by rw [HE.out]; rfl, hfw⟩
end Go.Proofs.YtnphncemghfkbaaGreat

namespace Go.Proofs.YtnphncemghfkbaaGreat
open Go.RowKit Go.My Go.Maps Go.WideMaps
set_option linter.unusedSimpArgs false
set_option linter.unusedVariables false
attribute [local go_sem ↓] Go.wp_at_zero Go.wp_at_succ

/-- a list of orders that may be handed in: as it lies now -/
structure Ls (w : World) (F : Nat → Prop) (A : Option Addr) (c : Nat) (l : List Od) : Prop where
  ods : OdsS w w F A l
  n : l.length ≤ 1000000
  c : l.length ≤ c
  s : ∀ o ∈ l, o.legs.length ≤ 100000
theorem Ls.no {w w' : World} {F : Nat → Prop} {A : Option Addr} {c : Nat} {l : List Od} (h : Ls w F A c l) (hf : Fr No w w') : Ls w' F A c l := ⟨h.ods.now hf, h.n, h.c, h.s⟩
set_option maxRecDepth 100000 in
theorem beginsC_any (w : World) (F G : Nat → Prop) (A B : Option Addr) (c d : Nat) (a b : List Od) (ha : Ls w F A c a) (hb : Ls w G B d b) :
    Calls Tryz.prog 54 #[.slice A a.length c, .slice B b.length d] w fun e w' => e = .returned (.bool (beginsB a b)) ∧ Fr No w w' := by
  have H1 : Hid (∀ W, Fr No w W → Calls Tryz.prog 29 #[.slice A a.length c] W fun e w' => e = .returned (.bool (rightL a)) ∧ Fr No W w') := fun W hW => rightC_any W W F A c a (ha.no hW).ods ha.n
  have H2 : Hid (∀ W, Fr No w W → Calls Tryz.prog 29 #[.slice B b.length d] W fun e w' => e = .returned (.bool (rightL b)) ∧ Fr No W w') := fun W hW => rightC_any W W G B d b (hb.no hW).ods hb.n
  have H3 : Hid (∀ W, Fr No w W → Calls Tryz.prog 81 #[.slice B b.length d, .slice A a.length c] W fun e w' => e = .returned (.bool (containsB b a)) ∧ Fr No W w') := fun W hW => containsC_any W F G A B c d a b (ha.no hW).ods (hb.no hW).ods ha.n hb.n hb.c
  have H4 : Hid (∀ W, Fr No w W → Calls Tryz.prog 82 #[.slice A a.length c, .slice B b.length d] W fun e w' => e = .returned (.bool (begB a b)) ∧ Fr No W w') := fun W hW => begins_any W F G A B c d a b (ha.no hW).ods (hb.no hW).ods ha.n hb.n hb.s
  unfold beginsB
  clear ha hb
  generalize rightL a = r1 at *
  generalize rightL b = r2 at *
  generalize containsB b a = r3 at *
  generalize begB a b = r4 at *
  cases r1
  · go_enter Tryz.func54, Tryz.ntmps54
    go_wp2_with fail
    (with_reducible refine (H1.out _ (Fr.refl _ _)).mono ?_)
    rintro e w1 ⟨rfl, hf1⟩
    go_wp2
    go_ret
    exact ⟨rfl, hf1⟩
  cases r2
  · go_enter Tryz.func54, Tryz.ntmps54
    go_wp2_with fail
    (with_reducible refine (H1.out _ (Fr.refl _ _)).mono ?_)
    rintro e w1 ⟨rfl, hf1⟩
    go_wp2_with fail
    (with_reducible refine (H2.out _ hf1).mono ?_)
    rintro e w2 ⟨rfl, hf2⟩
    go_wp2
    go_ret
    exact ⟨rfl, hf1.trans hf2⟩
  cases r3
  · go_enter Tryz.func54, Tryz.ntmps54
    go_wp2_with fail
    (with_reducible refine (H1.out _ (Fr.refl _ _)).mono ?_)
    rintro e w1 ⟨rfl, hf1⟩
    go_wp2_with fail
    (with_reducible refine (H2.out _ hf1).mono ?_)
    rintro e w2 ⟨rfl, hf2⟩
    go_wp2_with fail
    (with_reducible refine (H3.out _ (hf1.trans hf2)).mono ?_)
    rintro e w3 ⟨rfl, hf3⟩
    go_wp2
    go_ret
    exact ⟨rfl, (hf1.trans hf2).trans hf3⟩
  · go_enter Tryz.func54, Tryz.ntmps54
    go_wp2_with fail
    (with_reducible refine (H1.out _ (Fr.refl _ _)).mono ?_)
    rintro e w1 ⟨rfl, hf1⟩
    go_wp2_with fail
    (with_reducible refine (H2.out _ hf1).mono ?_)
    rintro e w2 ⟨rfl, hf2⟩
    go_wp2_with fail
    (with_reducible refine (H3.out _ (hf1.trans hf2)).mono ?_)
    rintro e w3 ⟨rfl, hf3⟩
    go_wp2_with fail
    (with_reducible refine (H4.out _ ((hf1.trans hf2).trans hf3)).mono ?_)
    rintro e w4 ⟨rfl, hf4⟩
    go_wp2
    go_ret
    exact ⟨rfl, ((hf1.trans hf2).trans hf3).trans hf4⟩
set_option maxRecDepth 100000 in
theorem alikeC_any (w : World) (F G : Nat → Prop) (A B : Option Addr) (c d : Nat) (a b : List Od) (ha : Ls w F A c a) (hb : Ls w G B d b) :
    Calls Tryz.prog 24 #[.slice A a.length c, .slice B b.length d] w fun e w' => e = .returned (.bool (alikeB a b)) ∧ Fr No w w' := by
  have H1 := Lib.hid (beginsC_any w F G A B c d a b ha hb)
  unfold alikeB
  clear ha hb
  generalize beginsB a b = r1 at *
  by_cases he : a.length = b.length
  · rw [decide_eq_true he, Bool.true_and]
    go_enter Tryz.func24, Tryz.ntmps24
    have hei : ((a.length : Int) == (b.length : Int)) = true := by rw [he]; exact beq_self_eq_true _
    rw [he] at H1
    generalize a.length = n at *
    subst he
    go_wp2_with fail
    (with_reducible refine H1.out.mono ?_)
    rintro e w1 ⟨rfl, hf1⟩
    go_wp2
    go_ret
    exact ⟨rfl, hf1⟩
  · rw [decide_eq_false he, Bool.false_and]
    have hei : ((a.length : Int) == (b.length : Int)) = false := beq_eq_false_iff_ne.2 (by omega)
    have hen : (a.length == b.length) = false := beq_eq_false_iff_ne.2 he
    generalize a.length = n at *
    generalize b.length = m at *
    clear H1
    go_enter Tryz.func24, Tryz.ntmps24
    go_wp2
    go_ret
    exact ⟨rfl, Fr.refl _ _⟩
/-- handed back: orders of the call's own, and one word -/
def RetN2 (w : World) (l : List Od) (r : Bool) (e : Ending) (w' : World) : Prop := ∃ A c, e = .returned (.tuple #[.slice A l.length c, .bool r]) ∧ OwnN w.heap.size w' (.slice A l.length c) l ∧ Fr No w w' ∧ ∀ k, (Value.slice A l.length c).ownBlock = some k → w.heap.size ≤ k
theorem out_left (a b : List Od) : b.filter (leftB (idsO a)) = outO a b := (outO_eq a b).symm
end Go.Proofs.YtnphncemghfkbaaGreat

namespace Go.Proofs.YtnphncemghfkbaaGreat
open Go.RowKit Go.My Go.Maps Go.WideMaps
set_option linter.unusedSimpArgs false
set_option linter.unusedVariables false
attribute [local go_sem ↓] Go.wp_at_zero Go.wp_at_succ

theorem each_all {α : Type} {R : List Value → α → Prop} {P : Value → Prop} {n : Nat} {cells : List Value} {l : List α} (hn : 0 < n) (h : Each R n cells l) (hR : ∀ cs x, R cs x → ∀ y ∈ cs, P y) : ∀ y ∈ cells, P y := by
  intro y hy
  obtain ⟨j, hj, rfl⟩ := List.mem_iff_getElem.1 hy
  have hlen := h.1
  have hi : j / n < l.length := by
    rw [Nat.div_lt_iff_lt_mul hn]
    omega
  have h2 := hR _ _ (h.2 (j / n) l[j / n] (List.getElem?_eq_getElem hi))
  apply h2
  rw [List.mem_iff_getElem?]
  refine ⟨j % n, ?_⟩
  rw [List.getElem?_take, if_pos (Nat.mod_lt _ hn), List.getElem?_drop]
  have e : j / n * n + j % n = j := by rw [Nat.mul_comm]; exact Nat.div_add_mod j n
  rw [e, List.getElem?_eq_getElem hj]
theorem each_append {α : Type} {R : List Value → α → Prop} {n : Nat} {cells cells2 : List Value} {l m : List α} (h : Each R n cells l) (h2 : Each R n cells2 m) : Each R n (cells ++ cells2) (l ++ m) := by
  refine ⟨by rw [List.length_append, h.1, h2.1, List.length_append, Nat.add_mul], fun i x hx => ?_⟩
  by_cases hi : i < l.length
  · rw [List.getElem?_append_left hi] at hx
    have h1 := h.2 i x hx
    have h3 : i * n + n ≤ cells.length := by rw [h.1]; have := Nat.mul_le_mul_right n (show i + 1 ≤ l.length from hi); rw [Nat.add_mul] at this; omega
    rw [List.drop_append_of_le_length (by omega), List.take_append_of_le_length (by rw [List.length_drop]; omega)]
    exact h1
  · rw [List.getElem?_append_right (by omega)] at hx
    have h1 := h2.2 _ x hx
    have e : i * n = cells.length + (i - l.length) * n := by
      rw [h.1, ← Nat.add_mul]
      congr 1
      omega
    rw [e, List.drop_append, List.drop_of_length_le (by omega), Nat.add_sub_cancel_left, List.nil_append]
    exact h1
theorem odrf_one {w : World} {F : Nat → Prop} (cs : List Value) (o : Od) (h : OdRF w F cs o) : ∀ y ∈ cs, y.oneCell' = true := by
  obtain ⟨v, rfl, _, _, hv⟩ := h
  obtain ⟨A, c, rfl, _, _⟩ := hv.form
  intro y hy
  unfold Od.cs at hy
  simp only [List.mem_cons, List.not_mem_nil, or_false] at hy
  rcases hy with rfl | rfl | rfl | rfl | rfl | rfl | rfl | rfl | rfl | rfl <;> rfl
end Go.Proofs.YtnphncemghfkbaaGreat
