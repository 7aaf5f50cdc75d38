/- The closure of clash.begins: may an order stand ahead of another one? -/
import Derived.Test.YtkkhdjchfhmliaaGreatClashA
import Derived.Test.YtkkhdjchfhmliaaGreatMOV
namespace Go.Proofs.YtkkhdjchfhmliaaGreat
open Go.RowKit Go.My Go.Maps Go.WideMaps
set_option linter.unusedSimpArgs false
set_option linter.unusedVariables false
attribute [local go_sem ↓] Go.wp_at_zero Go.wp_at_succ

theorem IMp.look1 {w : World} {m : Nat} {L : List Idk} (h : IMp w m L) (a : Idk) (ha : IdOk a) :
    (Instr.lookup 82 (.map (some m)) (.agg #[.int .i64 a.1, .int .i64 a.2]) false).run Tryz.prog w = .ok (.int .i64 (posO (posF L a))) w := by
  obtain ⟨D, hD, hR⟩ := h.own
  obtain ⟨c, hrun, hat, hwc⟩ := hD.lookup_int keyedI Tryz.underlying82 Tryz.underlying3 (zeroId w) (key_id ha)
  rw [hR.look _ ha] at hat
  rw [hrun]
  have : c = posO (posF L a) := by
    cases hg : posF L a with
    | none =>
      rw [hg] at hat
      simp only [DataW.lit.injEq, Lit.int.injEq, true_and] at hat
      exact hat.symm
    | some i =>
      rw [hg] at hat
      simp only [DataW.lit.injEq, Lit.int.injEq, true_and] at hat
      exact hat.symm
  rw [this]
def badI (L : List Idk) (o x : Od) : Bool := clashB x o && (leftB L x || decide (posO (posF L o.id) < posO (posF L x.id)))
theorem badI_eq (a : List Od) (o x : Od) : badI (idsO a) o x = badB a o x := by
  unfold badI badB leftB
  rw [posF_isSome]
/-- the variables that the closure holds -/
structure MsS (w : World) (gm gl ga go_ gw mw ma : Nat) (L : List Idk) (o : Od) (vo : Value) (B : Option Addr) (d : Nat) : Prop where
  mkk : ∃ t, Blk w gm t (o.cs vo ++ [Value.slice B (touchL o).length d]).toArray
  lf : w.cell? ⟨gl, 0, none⟩ = some (woV gw)
  wo : WoS w gw mw L
  at_ : w.cell? ⟨ga, 0, none⟩ = some (.map (some ma))
  mp : IMp w ma L
  od : ∃ t, Blk w go_ t (o.cs vo).toArray
  tc : Rd w (fun _ => True) 1 B (touchL o).length (ts (touchL o))
  vf : ∃ A n c, vo = .slice A n c
  ok : IdOk o.id
  sm : (touchL o).length ≤ 1000000
theorem MsS.no {w w' : World} {gm gl ga go_ gw mw ma : Nat} {L : List Idk} {o : Od} {vo : Value} {B : Option Addr} {d : Nat} (h : MsS w gm gl ga go_ gw mw ma L o vo B d) (hf : Fr No w w') : MsS w' gm gl ga go_ gw mw ma L o vo B d where
  mkk := by
    obtain ⟨t, h⟩ := h.mkk
    exact ⟨t, h.fr hf (fun h => h)⟩
  lf := hf.cell_some h.lf (fun h => h)
  wo := h.wo.no hf
  at_ := hf.cell_some h.at_ (fun h => h)
  mp := h.mp.fr hf (fun h => h)
  od := by
    obtain ⟨t, h⟩ := h.od
    exact ⟨t, h.fr hf (fun h => h)⟩
  tc := h.tc.fr (by omega) hf (fun _ _ _ h => h)
  vf := h.vf
  ok := h.ok
  sm := h.sm
set_option maxRecDepth 100000 in
set_option maxHeartbeats 600000 in
theorem misplaced_any (w : World) (gm gl ga go_ gw mw ma : Nat) (L : List Idk) (o : Od) (vo : Value) (B : Option Addr) (d : Nat) (h : MsS w gm gl ga go_ gw mw ma L o vo B d)
    (x : Od) (vx : Value) (F : Nat → Prop) (C : Option Addr) (e_ : Nat) (hx : Rd w F 1 C (touchL x).length (ts (touchL x))) (hxf : ∃ A n c, vx = .slice A n c) (hxo : IdOk x.id) (hxs : (touchL x).length ≤ 1000000) :
    Calls Tryz.prog 42 #[mkd x vx (.slice C (touchL x).length e_), .pointer (some ⟨gm, 0, none⟩), .pointer (some ⟨gl, 0, none⟩), .pointer (some ⟨ga, 0, none⟩), .pointer (some ⟨go_, 0, none⟩)] w fun e w' => e = .returned (.bool (badI L o x)) ∧ Fr No w w' := by
  have HCL : Hid (∀ W, Fr No w W → Calls Tryz.prog 31 #[mkd x vx (.slice C (touchL x).length e_), mkd o vo (.slice B (touchL o).length d)] W fun e w' => e = .returned (.bool (clashB x o)) ∧ Fr No W w') := fun W hW => clashes_any F _ x o vx vo C B e_ d _ _ W (hx.fr (by omega) hW (fun _ _ _ h => h)) ((h.no hW).tc) hxs h.sm
  have HLF : Hid (∀ W, Fr No w W → Calls Tryz.prog 62 #[x.val vx, .pointer (some ⟨gw, 0, none⟩)] W fun e w' => e = .returned (.bool (leftB L x)) ∧ Fr No W w') := fun W hW => left_any x vx gw mw L W (h.no hW).wo hxo hxf
  have HL1 : Hid (∀ W, Fr No w W → _) := fun W hW => (h.no hW).mp.look1 x.id hxo
  have HL2 : Hid (∀ W, Fr No w W → _) := fun W hW => (h.no hW).mp.look1 o.id h.ok
  have HLC : Hid (∀ W, Fr No w W → W.cell? ⟨gl, 0, none⟩ = some (woV gw)) := fun W hW => (h.no hW).lf
  have HAC : Hid (∀ W, Fr No w W → W.cell? ⟨ga, 0, none⟩ = some (.map (some ma))) := fun W hW => (h.no hW).at_
  have hen : ∀ args W, (callFunc 62 args).run Tryz.prog W = .ok (.enter 62 args) W := enters_of Tryz.func62 (by kernel_rfl) rfl
  obtain ⟨t1, hmk⟩ := h.mkk
  obtain ⟨t2, hod⟩ := h.od
  obtain ⟨vA, vn, vc, rfl⟩ := hxf
  obtain ⟨oA, on, oc, rfl⟩ := h.vf
  unfold badI
  clear h hx hxo hxs
  generalize clashB x o = r1 at *
  generalize leftB L x = r2 at *
  generalize posO (posF L x.id) = p1 at *
  generalize posO (posF L o.id) = p2 at *
  generalize (touchL x).length = tn at *
  generalize (touchL o).length = sn at *
  obtain ⟨acl, asq, akd, aac, ape, asm, alg, apr, ahd, ant⟩ := x
  obtain ⟨bcl, bsq, bkd, bac, bpe, bsm, blg, bpr, bhd, bnt⟩ := o
  unfold mkd Od.val Od.cs Od.id at *
  simp only [List.cons_append, List.nil_append] at *
  have hbx := Blk.new w 70 #[.int .i64 acl, .int .i64 asq, .int .i64 akd, .string aac, .string ape, .int .i64 asm, .slice vA vn vc, .int .i64 apr, .int .i64 ahd, .string ant, .slice C tn e_]
  have hfw : Fr No w (w.alloc (.cells #[.int .i64 acl, .int .i64 asq, .int .i64 akd, .string aac, .string ape, .int .i64 asm, .slice vA vn vc, .int .i64 apr, .int .i64 ahd, .string ant, .slice C tn e_] 70)) := (Fr.refl _ _).alloc _
  go_enter Tryz.func42, Tryz.ntmps42
  go_upto_region 1 with (fail)
  generalize w.alloc (.cells #[.int .i64 acl, .int .i64 asq, .int .i64 akd, .string aac, .string ape, .int .i64 asm, .slice vA vn vc, .int .i64 apr, .int .i64 ahd, .string ant, .slice C tn e_] 70) = w2 at *
  have hne : Nonempty (WIn (Fr No w2)) := ⟨⟨_, Fr.refl _ _⟩⟩
  have HFW := Lib.hid hfw
  have x0 := fun x : WIn (Fr No w2) => (hbx.fr x.h (fun h => h)).cell 0
  have m0 := fun x : WIn (Fr No w2) => (hmk.fr (hfw.trans x.h) (fun h => h)).cell 0
  have x1 := fun x : WIn (Fr No w2) => (hbx.fr x.h (fun h => h)).cell 1
  have m1 := fun x : WIn (Fr No w2) => (hmk.fr (hfw.trans x.h) (fun h => h)).cell 1
  have x2 := fun x : WIn (Fr No w2) => (hbx.fr x.h (fun h => h)).cell 2
  have m2 := fun x : WIn (Fr No w2) => (hmk.fr (hfw.trans x.h) (fun h => h)).cell 2
  have x3 := fun x : WIn (Fr No w2) => (hbx.fr x.h (fun h => h)).cell 3
  have m3 := fun x : WIn (Fr No w2) => (hmk.fr (hfw.trans x.h) (fun h => h)).cell 3
  have x4 := fun x : WIn (Fr No w2) => (hbx.fr x.h (fun h => h)).cell 4
  have m4 := fun x : WIn (Fr No w2) => (hmk.fr (hfw.trans x.h) (fun h => h)).cell 4
  have x5 := fun x : WIn (Fr No w2) => (hbx.fr x.h (fun h => h)).cell 5
  have m5 := fun x : WIn (Fr No w2) => (hmk.fr (hfw.trans x.h) (fun h => h)).cell 5
  have x6 := fun x : WIn (Fr No w2) => (hbx.fr x.h (fun h => h)).cell 6
  have m6 := fun x : WIn (Fr No w2) => (hmk.fr (hfw.trans x.h) (fun h => h)).cell 6
  have x7 := fun x : WIn (Fr No w2) => (hbx.fr x.h (fun h => h)).cell 7
  have m7 := fun x : WIn (Fr No w2) => (hmk.fr (hfw.trans x.h) (fun h => h)).cell 7
  have x8 := fun x : WIn (Fr No w2) => (hbx.fr x.h (fun h => h)).cell 8
  have m8 := fun x : WIn (Fr No w2) => (hmk.fr (hfw.trans x.h) (fun h => h)).cell 8
  have x9 := fun x : WIn (Fr No w2) => (hbx.fr x.h (fun h => h)).cell 9
  have m9 := fun x : WIn (Fr No w2) => (hmk.fr (hfw.trans x.h) (fun h => h)).cell 9
  have x10 := fun x : WIn (Fr No w2) => (hbx.fr x.h (fun h => h)).cell 10
  have m10 := fun x : WIn (Fr No w2) => (hmk.fr (hfw.trans x.h) (fun h => h)).cell 10
  have o0 := fun x : WIn (Fr No w2) => (hod.fr (hfw.trans x.h) (fun h => h)).cell 0
  have o1 := fun x : WIn (Fr No w2) => (hod.fr (hfw.trans x.h) (fun h => h)).cell 1
  simp only [List.getElem?_toArray, List.getElem?_cons_zero, List.getElem?_cons_succ] at x0 m0 x1 m1 x2 m2 x3 m3 x4 m4 x5 m5 x6 m6 x7 m7 x8 m8 x9 m9 x10 m10 o0 o1
  have zl := fun x : WIn (Fr No w2) => HLC.out x.W (hfw.trans x.h)
  have za := fun x : WIn (Fr No w2) => HAC.out x.W (hfw.trans x.h)
  have zk1 := fun x : WIn (Fr No w2) => HL1.out x.W (hfw.trans x.h)
  have zk2 := fun x : WIn (Fr No w2) => HL2.out x.W (hfw.trans x.h)
  clear hmk hod hbx hfw HL1 HL2
  cases r1
  · refine wp_region_in (D := Fr No w2) (by kernel_rfl) (by kernel_rfl) (Fr.refl _ _).drew ?_
    repeat (go_big_quiet_step ((first | (go_at_call 31; refine Calls.in_of (v := .bool false) _ fun W hW => ?_; (with_reducible refine (HCL.out W (HFW.out.trans hW)).mono ?_); exact fun _ _ h => ⟨h.1, Fr.trans hW h.2⟩))))
    refine wpQuiet_nil ?_
    rintro _ ⟨⟨wq, hq⟩, rfl⟩
    go_wp2
    go_ret
    exact ⟨rfl, HFW.out.trans hq⟩
  · cases r2
    · refine wp_region_in (D := Fr No w2) (by kernel_rfl) (by kernel_rfl) (Fr.refl _ _).drew ?_
      repeat (go_big_quiet_step ((first | (go_at_call 31; refine Calls.in_of (v := .bool true) _ fun W hW => ?_; (with_reducible refine (HCL.out W (HFW.out.trans hW)).mono ?_); exact fun _ _ h => ⟨h.1, Fr.trans hW h.2⟩) | (go_at_call 62; refine Calls.in_of (v := .bool false) _ fun W hW => ?_; (with_reducible refine (HLF.out W (HFW.out.trans hW)).mono ?_); exact fun _ _ h => ⟨h.1, Fr.trans hW h.2⟩))))
      refine wpQuiet_nil ?_
      rintro _ ⟨⟨wq, hq⟩, rfl⟩
      go_wp2
      go_ret
      exact ⟨by simp, HFW.out.trans hq⟩
    · refine wp_region_in (D := Fr No w2) (by kernel_rfl) (by kernel_rfl) (Fr.refl _ _).drew ?_
      repeat (go_big_quiet_step ((first | (go_at_call 31; refine Calls.in_of (v := .bool true) _ fun W hW => ?_; (with_reducible refine (HCL.out W (HFW.out.trans hW)).mono ?_); exact fun _ _ h => ⟨h.1, Fr.trans hW h.2⟩) | (go_at_call 62; refine Calls.in_of (v := .bool true) _ fun W hW => ?_; (with_reducible refine (HLF.out W (HFW.out.trans hW)).mono ?_); exact fun _ _ h => ⟨h.1, Fr.trans hW h.2⟩))))
      refine wpQuiet_nil ?_
      rintro _ ⟨⟨wq, hq⟩, rfl⟩
      go_wp2
      go_ret
      exact ⟨rfl, HFW.out.trans hq⟩
end Go.Proofs.YtkkhdjchfhmliaaGreat
