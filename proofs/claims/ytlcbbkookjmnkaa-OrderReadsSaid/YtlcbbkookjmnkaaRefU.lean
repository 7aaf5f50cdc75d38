/- The document's own ReadTold. -/
import Derived.Test.YtlcbbkookjmnkaaRefR
import Derived.Test.YtlcbbkookjmnkaaOrdC
namespace Go.Proofs.Ytlcbbkookjmnkaa
open Go.RowKit Go.My Go.Maps
set_option linter.unusedSimpArgs false
set_option linter.unusedVariables false
attribute [local go_sem ↓] Go.wp_at_zero Go.wp_at_succ

theorem set4 {w : World} {g : Nat} {t : TypeId} {y0 y1 y2 y3 : Value} (h : Blk w g t #[y0, y1, y2, y3]) (z0 z1 z2 z3 : Value) :
    Blk ((((w.setCell ⟨g, 0, none⟩ z0).setCell ⟨g, 1, none⟩ z1).setCell ⟨g, 2, none⟩ z2).setCell ⟨g, 3, none⟩ z3) g t #[z0, z1, z2, z3] ∧ Fr (At1 g) w ((((w.setCell ⟨g, 0, none⟩ z0).setCell ⟨g, 1, none⟩ z1).setCell ⟨g, 2, none⟩ z2).setCell ⟨g, 3, none⟩ z3) := by
  have h1 := (((h.set_ 0 z0).set_ 1 z1).set_ 2 z2).set_ 3 z3
  simp only [List.setIfInBounds_toArray, List.set_cons_zero, List.set_cons_succ] at h1
  exact ⟨h1, (((fr_set _ _ _ _).trans (fr_set _ _ _ _)).trans (fr_set _ _ _ _)).trans (fr_set _ _ _ _)⟩
theorem done_iff (l : List UInt8) (e : Nat) : doneE l e = 0 ↔ e = 0 ∧ l = [] := by
  unfold doneE
  constructor
  · intro h
    split at h
    · split at h
      · exact ⟨by assumption, by assumption⟩
      · cases h
    · exact absurd h (by assumption)
  · rintro ⟨rfl, rfl⟩
    rfl
set_option maxRecDepth 100000 in
set_option maxHeartbeats 2000000 in
theorem refreadt_any (F : Nat → Prop) (A : Option Addr) (n c : Nat) (l : List UInt8) (w : World) (hn : l.length = n) (hr : Rd w F 1 A n (bs l)) (hF : ∀ k, F k → k < w.heap.size) (hc : n ≤ c) (hm : c ≤ maxLen) (hsz : n ≤ 1000000) :
    Calls Try.prog 24 #[.slice A n c] w fun e w' => e = .returned (.tuple #[(readR l).val, .int .i64 (readRE l)]) ∧ Fr No w w' := by
  subst hn
  have HYES : Hid ((rawR l).e = 0 → (rawR l).l = [] → readR l = (rawR l).r ∧ readRE l = 0) := fun h1 h2 => by
    have hb : readRB l = true := by unfold readRB; exact decide_eq_true ((done_iff _ _).2 ⟨h1, h2⟩)
    unfold readR readRE
    rw [if_pos hb, if_pos hb]
    exact ⟨rfl, rfl⟩
  have HNO : Hid (¬ ((rawR l).e = 0 ∧ (rawR l).l = []) → readR l = noR ∧ readRE l = 3) := fun h1 => by
    have hb : ¬ readRB l = true := by unfold readRB; rw [decide_eq_true_eq, done_iff]; exact h1
    unfold readR readRE
    rw [if_neg hb, if_neg hb]
    exact ⟨rfl, rfl⟩
  have hb2 := (Blk.new w 29 #[.int .i64 0, .int .i64 0, .int .i64 0, .int .i64 0]).alloc (.cells #[.slice A l.length c, .int .i64 0] 85)
  have hbp := Blk.new (w.alloc (.cells #[.int .i64 0, .int .i64 0, .int .i64 0, .int .i64 0] 29)) 85 #[.slice A l.length c, .int .i64 0]
  rw [World.size_alloc] at hbp
  have hf2 : Fr No w ((w.alloc (.cells #[.int .i64 0, .int .i64 0, .int .i64 0, .int .i64 0] 29)).alloc (.cells #[.slice A l.length c, .int .i64 0] 85)) := ((Fr.refl _ _).alloc _).alloc _
  go_enter Try.func24, Try.ntmps24
  go_upto_region 2 with (fail)
  generalize hw2 : ((w.alloc (.cells #[.int .i64 0, .int .i64 0, .int .i64 0, .int .i64 0] 29)).alloc (.cells #[.slice A l.length c, .int .i64 0] 85)) = w2 at *
  have hr0 : RdR F w2 (w.heap.size + 1) l 0 := ⟨A, c, hbp, hr.fr (by omega) hf2 (fun _ _ _ h => h), hc, hm, hsz, fun h => by have := hF _ h; omega⟩
  have HB2 := Lib.hid hb2
  generalize hp : w.heap.size + 1 = p at *
  have HP : Hid (w.heap.size < p) := by show _ < _; omega
  have HT : Hid (∀ {a b : World} {i : Nat}, Fr No w a → Fr (At1 i) a b → w.heap.size < i → Fr No w b) := fun h1 h2 h3 => h1.trans' h2 (fun j hj hlt => by have : j = _ := hj; omega)
  clear hw2 hb2 hbp hr hF hc hm hsz hp
  go_wp2_with fail
  refine (rRange_at F p 0 14 l 0 _ hr0 (by omega)).mono ?_
  rintro e u1 ⟨rfl, hr1, hf1⟩
  unfold two
  have he1 : (rrange 0 14 l 0).2.1 < 5 := rrange_err _ _ _ _ (by omega)
  generalize hq1 : rrange 0 14 l 0 = a at *
  have HQ1 := Lib.hid hq1
  have HTW1 := Lib.hid (HB2.out.fr hf1 (fun h => by have : w.heap.size = p := h; have := HP.out; omega))
  have hw1 : Fr No w u1 := HT.out hf2 hf1 HP.out
  clear hq1 hf1 HB2 hr0  hf2
  go_wp2_with fail
  refine (rNum_at F p a.2.2 a.2.1 _ hr1 he1).mono ?_
  rintro e u2 ⟨rfl, hr2, hf2⟩
  unfold two
  have he2 : (rnum a.2.2 a.2.1).2.1 < 5 := rnum_err _ _ he1
  generalize hq2 : rnum a.2.2 a.2.1 = b at *
  have HQ2 := Lib.hid hq2
  have HTW2 := Lib.hid (HTW1.out.fr hf2 (fun h => by have : w.heap.size = p := h; have := HP.out; omega))
  have hw2 : Fr No w u2 := HT.out hw1 hf2 HP.out
  clear hq2 hf2 HTW1 hr1 he1 hw1
  go_wp2_with fail
  refine (rNum_at F p b.2.2 b.2.1 _ hr2 he2).mono ?_
  rintro e u3 ⟨rfl, hr3, hf3⟩
  unfold two
  have he3 : (rnum b.2.2 b.2.1).2.1 < 5 := rnum_err _ _ he2
  generalize hq3 : rnum b.2.2 b.2.1 = k at *
  have HQ3 := Lib.hid hq3
  have HTW3 := Lib.hid (HTW2.out.fr hf3 (fun h => by have : w.heap.size = p := h; have := HP.out; omega))
  have hw3 : Fr No w u3 := HT.out hw2 hf3 HP.out
  clear hq3 hf3 HTW2 hr2 he2 hw2
  go_wp2_with fail
  refine (rNum_at F p k.2.2 k.2.1 _ hr3 he3).mono ?_
  rintro e u4 ⟨rfl, hr4, hf4⟩
  unfold two
  have he4 : (rnum k.2.2 k.2.1).2.1 < 5 := rnum_err _ _ he3
  generalize hq4 : rnum k.2.2 k.2.1 = d at *
  have HQ4 := Lib.hid hq4
  have HTW4 := Lib.hid (HTW3.out.fr hf4 (fun h => by have : w.heap.size = p := h; have := HP.out; omega))
  have hw4 : Fr No w u4 := HT.out hw3 hf4 HP.out
  have HE3 := Lib.hid he3
  clear hq4 hf4 HTW3 hr3 he3 hw3
  have HRAW : Hid (rawR l = ⟨⟨a.1, b.1, k.1, d.1⟩, d.2.1, d.2.2⟩) := by
    show _ = _
    unfold rawR
    simp only [HQ1.out, HQ2.out, HQ3.out]
    rw [rint_num _ _ HE3.out]
    simp only [HQ4.out]
  clear HQ1 HQ2 HQ3 HQ4 HE3 he4
  obtain ⟨Ar, cr, hbr, hrr, _, _, hlr, _⟩ := hr4
  have r0 := hbr.cell 0
  have r1 := hbr.cell 1
  simp only [List.getElem?_toArray, List.getElem?_cons_zero, List.getElem?_cons_succ] at r0 r1
  have HLR := Lib.hid hlr
  clear hbr hrr hlr
  by_cases hE : d.2.1 = 0
  rotate_left
  · have hz : ((d.2.1 : Int) != 0) = true := by rw [bne_iff_ne]; omega
    have HE := Lib.hid hE
    clear hE
    have t0 := HTW4.out.cell 0
    have t1 := HTW4.out.cell 1
    have t2 := HTW4.out.cell 2
    have t3 := HTW4.out.cell 3
    simp only [List.getElem?_toArray, List.getElem?_cons_zero, List.getElem?_cons_succ] at t0 t1 t2 t3
    have ft0 := HTW4.out.frozen 0
    have ft1 := HTW4.out.frozen 1
    have ft2 := HTW4.out.frozen 2
    have ft3 := HTW4.out.frozen 3
    have hset := set4 HTW4.out (.int .i64 0) (.int .i64 0) (.int .i64 0) (.int .i64 0)
    go_wp2
    clear t0 ft0 t1 ft1 t2 ft2 t3 ft3
    obtain ⟨hbZ, hfZ⟩ := hset
    generalize ((((u4.setCell ⟨w.heap.size, 0, none⟩ (.int .i64 0)).setCell ⟨w.heap.size, 1, none⟩ (.int .i64 0)).setCell ⟨w.heap.size, 2, none⟩ (.int .i64 0)).setCell ⟨w.heap.size, 3, none⟩ (.int .i64 0)) = y9 at *
    have dd0 := hbZ.cell 0
    have dd1 := hbZ.cell 1
    have dd2 := hbZ.cell 2
    have dd3 := hbZ.cell 3
    simp only [List.getElem?_toArray, List.getElem?_cons_zero, List.getElem?_cons_succ] at dd0 dd1 dd2 dd3
    refine bodyPost_ret (v := .tuple #[.agg #[.int .i64 0, .int .i64 0, .int .i64 0, .int .i64 0], .int .i64 3]) (by simp [results, Try.results24, go_sem, dd0, dd1, dd2, dd3]) rfl ?_
    have h3 : (Ending.returned (.tuple #[.agg #[.int .i64 0, .int .i64 0, .int .i64 0, .int .i64 0], .int .i64 3])) = .returned (.tuple #[(readR l).val, .int .i64 (readRE l)]) ∧ Fr No w y9 := by
      have hno := HNO.out (by rw [HRAW.out]; exact fun h => HE.out h.1)
      rw [hno.1, hno.2]
      exact ⟨rfl, hw4.trans' hfZ (fun k hk hlt => by have : k = w.heap.size := hk; omega)⟩
    exact h3
  have hz : ((d.2.1 : Int) != 0) = false := by rw [bne_eq_false_iff_eq]; omega
  by_cases hL : d.2.2 = []
  rotate_left
  · have hlen : (0 : Int) < (d.2.2.length : Int) := by have := List.length_pos_iff.2 hL; omega
    have hlen2 : 0 < d.2.2.length := List.length_pos_iff.2 hL
    have HE := Lib.hid hL
    clear hL hE
    have t0 := HTW4.out.cell 0
    have t1 := HTW4.out.cell 1
    have t2 := HTW4.out.cell 2
    have t3 := HTW4.out.cell 3
    simp only [List.getElem?_toArray, List.getElem?_cons_zero, List.getElem?_cons_succ] at t0 t1 t2 t3
    have ft0 := HTW4.out.frozen 0
    have ft1 := HTW4.out.frozen 1
    have ft2 := HTW4.out.frozen 2
    have ft3 := HTW4.out.frozen 3
    have hset := set4 HTW4.out (.int .i64 0) (.int .i64 0) (.int .i64 0) (.int .i64 0)
    go_wp2
    clear t0 ft0 t1 ft1 t2 ft2 t3 ft3
    obtain ⟨hbZ, hfZ⟩ := hset
    generalize ((((u4.setCell ⟨w.heap.size, 0, none⟩ (.int .i64 0)).setCell ⟨w.heap.size, 1, none⟩ (.int .i64 0)).setCell ⟨w.heap.size, 2, none⟩ (.int .i64 0)).setCell ⟨w.heap.size, 3, none⟩ (.int .i64 0)) = y9 at *
    have dd0 := hbZ.cell 0
    have dd1 := hbZ.cell 1
    have dd2 := hbZ.cell 2
    have dd3 := hbZ.cell 3
    simp only [List.getElem?_toArray, List.getElem?_cons_zero, List.getElem?_cons_succ] at dd0 dd1 dd2 dd3
    refine bodyPost_ret (v := .tuple #[.agg #[.int .i64 0, .int .i64 0, .int .i64 0, .int .i64 0], .int .i64 3]) (by simp [results, Try.results24, go_sem, dd0, dd1, dd2, dd3]) rfl ?_
    have h3 : (Ending.returned (.tuple #[.agg #[.int .i64 0, .int .i64 0, .int .i64 0, .int .i64 0], .int .i64 3])) = .returned (.tuple #[(readR l).val, .int .i64 (readRE l)]) ∧ Fr No w y9 := by
      have hno := HNO.out (by rw [HRAW.out]; exact fun h => HE.out h.2)
      rw [hno.1, hno.2]
      exact ⟨rfl, hw4.trans' hfZ (fun k hk hlt => by have : k = w.heap.size := hk; omega)⟩
    exact h3
  have hlen : ¬ (0 : Int) < (d.2.2.length : Int) := by rw [hL]; simp
  have hlen2 : ¬ 0 < d.2.2.length := by rw [hL]; simp
  have HE := Lib.hid hE
  have HL0 := Lib.hid hL
  clear hE hL
  have t0 := HTW4.out.cell 0
  have t1 := HTW4.out.cell 1
  have t2 := HTW4.out.cell 2
  have t3 := HTW4.out.cell 3
  simp only [List.getElem?_toArray, List.getElem?_cons_zero, List.getElem?_cons_succ] at t0 t1 t2 t3
  have ft0 := HTW4.out.frozen 0
  have ft1 := HTW4.out.frozen 1
  have ft2 := HTW4.out.frozen 2
  have ft3 := HTW4.out.frozen 3
  have hset := set4 HTW4.out (.int .i64 a.1) (.int .i64 b.1) (.int .i64 k.1) (.int .i64 d.1)
  go_wp2
  clear t0 ft0 t1 ft1 t2 ft2 t3 ft3
  obtain ⟨hbZ, hfZ⟩ := hset
  generalize ((((u4.setCell ⟨w.heap.size, 0, none⟩ (.int .i64 a.1)).setCell ⟨w.heap.size, 1, none⟩ (.int .i64 b.1)).setCell ⟨w.heap.size, 2, none⟩ (.int .i64 k.1)).setCell ⟨w.heap.size, 3, none⟩ (.int .i64 d.1)) = y9 at *
  have dd0 := hbZ.cell 0
  have dd1 := hbZ.cell 1
  have dd2 := hbZ.cell 2
  have dd3 := hbZ.cell 3
  simp only [List.getElem?_toArray, List.getElem?_cons_zero, List.getElem?_cons_succ] at dd0 dd1 dd2 dd3
  refine bodyPost_ret (v := .tuple #[.agg #[.int .i64 a.1, .int .i64 b.1, .int .i64 k.1, .int .i64 d.1], .int .i64 0]) (by simp [results, Try.results24, go_sem, dd0, dd1, dd2, dd3]) rfl ?_
  have h3 : (Ending.returned (.tuple #[.agg #[.int .i64 a.1, .int .i64 b.1, .int .i64 k.1, .int .i64 d.1], .int .i64 0])) = .returned (.tuple #[(readR l).val, .int .i64 (readRE l)]) ∧ Fr No w y9 := by
    have hno := HYES.out (by rw [HRAW.out]; exact HE.out) (by rw [HRAW.out]; exact HL0.out)
    rw [hno.1, hno.2]
    exact ⟨by rw [HRAW.out]; rfl, hw4.trans' hfZ (fun k hk hlt => by have : k = w.heap.size := hk; omega)⟩
  exact h3
end Go.Proofs.Ytlcbbkookjmnkaa
