/- execute, of what is new. runner.numbers: where each Inst stands. A heap in a row, of no program: one that goes up, one that goes down; two that change places. -/
import Derived.Test.YtcpgamidimfflaaGreatQ23
namespace Go.Proofs.YtcpgamidimfflaaGreat
open Go.RowKit Go.My Go.Maps
set_option linter.unusedSimpArgs false
set_option linter.unusedVariables false
attribute [local go_sem ↓] Go.wp_at_zero Go.wp_at_succ
def Pr.wx (r : Pr) (k : Nat) : Prop := k = r.p ∨ k = r.tm ∨ r.q.all k ∨ r.lv.ownBlock = some k
theorem Pr.wx_wr {r : Pr} {k : Nat} (h : r.wx k) : r.wr k := by
  rcases h with h | h | h | h
  · exact .inl h
  · exact .inr (.inr (.inr (.inl h)))
  · exact .inr (.inr (.inr (.inr (.inl h))))
  · exact .inr (.inr (.inr (.inr (.inr h))))
def ExcM (r : Pr) (w : World) (s : Ru) (w' : World) : Prop := ∃ lv' : Value, RnM w' { r with lv := lv' } s ∧ Fr r.wx w w' ∧ (lv'.ownBlock = r.lv.ownBlock ∨ ∃ k, lv'.ownBlock = some k ∧ w.heap.size ≤ k)
set_option maxRecDepth 100000 in
set_option maxHeartbeats 4000000 in
theorem exec_new0 (w : World) (r : Pr) (s : Ru) (i1 i2 : Int) (od : Od) (ocl osq okd : Int) (oac ope : ByteArray) (osm : Int) (olg : List Lg) (opr ohd : Int) (ont : ByteArray) (A : Option Addr) (n c : Nat) (re rh rs rn : Int) (B' : Bk)
    (hod : od = ⟨ocl, osq, okd, oac, ope, osm, olg, opr, ohd, ont⟩) (hn : olg.length = n) (h : RnM w r s) (hok : od.ok) (hgs : ∀ g ∈ od.legs, g.ok) (hv : LgS w r.E (.slice A n c) olg)
    (hdo : ∀ W, Fr No w W → Calls Tryz.prog 75 #[.pointer (some ⟨r.q.p, 0, none⟩), .agg #[.int .i64 ocl, .int .i64 osq, .int .i64 okd, .string oac, .string ope, .int .i64 osm, .slice A n c, .int .i64 opr, .int .i64 ohd, .string ont]] W fun e w' => e = .returned (.agg #[.int .i64 re, .int .i64 rh, .int .i64 rs, .int .i64 rn]) ∧ BkS w' r.q B' ∧ Fr r.q.wr W w')
    (hdi : DiI { s with did := s.did ++ [od], tr := s.tr ++ [⟨re, rh, rs, rn⟩], b := B' }) (hx : lookT s.did s.tr (ocl, osq) = none) (hio : IdOk (ocl, osq)) :
    Calls Tryz.prog 55 #[.pointer (some ⟨r.p, 0, none⟩), .agg #[.int .i64 i1, .int .i64 i2], .agg #[.int .i64 ocl, .int .i64 osq, .int .i64 okd, .string oac, .string ope, .int .i64 osm, .slice A n c, .int .i64 opr, .int .i64 ohd, .string ont]] w fun e w' => e = .returned (.agg #[.int .i64 i1, .int .i64 i2, .int .i64 ocl, .int .i64 osq, .int .i64 re, .int .i64 rh, .int .i64 rs, .int .i64 rn, .bool false]) ∧ ExcM r w { s with did := s.did ++ [od], tr := s.tr ++ [⟨re, rh, rs, rn⟩], b := B' } w' := by
  have hl := fun (W : World) (hW : Fr No w W) => (h.td.fr hW (fun h => h)).look (ocl, osq) hio
  rw [hx] at hl
  unfold Rp.val at hl
  simp only [Option.getD_none, Option.isSome_none] at hl
  have HH := Lib.hid h
  have HOK := Lib.hid hok
  have HGS := Lib.hid hgs
  have HLV := Lib.hid hv
  have HDO := Lib.hid hdo
  have HDI := Lib.hid hdi
  have HOD := Lib.hid hod
  have HNN := Lib.hid hn
  have HIO := Lib.hid hio
  have HB := Lib.hid h.blk
  have hplt := h.blk.lt
  clear h hok hgs hv hdo hdi hod hn hx hio
  have hfa : Fr No w (((w.alloc (.cells #[.int .i64 i1, .int .i64 i2] 30)).alloc (.cells #[.int .i64 ocl, .int .i64 osq, .int .i64 okd, .string oac, .string ope, .int .i64 osm, .slice A n c, .int .i64 opr, .int .i64 ohd, .string ont] 35)).alloc (.cells #[.int .i64 0, .int .i64 0, .int .i64 0, .int .i64 0, .int .i64 0, .int .i64 0, .int .i64 0, .int .i64 0, .bool false] 82)) := (((Fr.refl _ _).alloc _).alloc _).alloc _
  have hb0 := ((Blk.new w 30 #[.int .i64 i1, .int .i64 i2]).alloc (.cells #[.int .i64 ocl, .int .i64 osq, .int .i64 okd, .string oac, .string ope, .int .i64 osm, .slice A n c, .int .i64 opr, .int .i64 ohd, .string ont] 35)).alloc (.cells #[.int .i64 0, .int .i64 0, .int .i64 0, .int .i64 0, .int .i64 0, .int .i64 0, .int .i64 0, .int .i64 0, .bool false] 82)
  have hb1 := (Blk.new (w.alloc (.cells #[.int .i64 i1, .int .i64 i2] 30)) 35 #[.int .i64 ocl, .int .i64 osq, .int .i64 okd, .string oac, .string ope, .int .i64 osm, .slice A n c, .int .i64 opr, .int .i64 ohd, .string ont]).alloc (.cells #[.int .i64 0, .int .i64 0, .int .i64 0, .int .i64 0, .int .i64 0, .int .i64 0, .int .i64 0, .int .i64 0, .bool false] 82)
  have hb2 := Blk.new ((w.alloc (.cells #[.int .i64 i1, .int .i64 i2] 30)).alloc (.cells #[.int .i64 ocl, .int .i64 osq, .int .i64 okd, .string oac, .string ope, .int .i64 osm, .slice A n c, .int .i64 opr, .int .i64 ohd, .string ont] 35)) 82 #[.int .i64 0, .int .i64 0, .int .i64 0, .int .i64 0, .int .i64 0, .int .i64 0, .int .i64 0, .int .i64 0, .bool false]
  rw [World.size_alloc] at hb1
  rw [World.size_alloc, World.size_alloc] at hb2
  have hsz : (((w.alloc (.cells #[.int .i64 i1, .int .i64 i2] 30)).alloc (.cells #[.int .i64 ocl, .int .i64 osq, .int .i64 okd, .string oac, .string ope, .int .i64 osm, .slice A n c, .int .i64 opr, .int .i64 ohd, .string ont] 35)).alloc (.cells #[.int .i64 0, .int .i64 0, .int .i64 0, .int .i64 0, .int .i64 0, .int .i64 0, .int .i64 0, .int .i64 0, .bool false] 82)).heap.size = w.heap.size + 3 := by simp
  go_enter Tryz.func55, Tryz.ntmps55
  go_upto_region 1 with (fail)
  generalize (((w.alloc (.cells #[.int .i64 i1, .int .i64 i2] 30)).alloc (.cells #[.int .i64 ocl, .int .i64 osq, .int .i64 okd, .string oac, .string ope, .int .i64 osm, .slice A n c, .int .i64 opr, .int .i64 ohd, .string ont] 35)).alloc (.cells #[.int .i64 0, .int .i64 0, .int .i64 0, .int .i64 0, .int .i64 0, .int .i64 0, .int .i64 0, .int .i64 0, .bool false] 82)) = w2 at *
  have HX : Hid (∀ W, Fr No w2 W → Fr No w2 W ∧ W.cell? ⟨r.p, 3, none⟩ = some (.map (some r.tm)) ∧ W.cell? ⟨w.heap.size + 1, 0, none⟩ = some (.int .i64 ocl) ∧ W.cell? ⟨w.heap.size + 1, 1, none⟩ = some (.int .i64 osq) ∧
      (Instr.lookup 90 (.map (some r.tm)) (.agg #[.int .i64 ocl, .int .i64 osq]) true).run Tryz.prog W = .ok (.tuple #[.agg #[.int .i64 0, .int .i64 0, .int .i64 0, .int .i64 0], .bool false]) W) := Lib.hid fun W hW => by
    have h1 := (HB.out.fr (hfa.trans hW) (fun h => h))
    have h2 := hb1.fr hW (fun h => h)
    exact ⟨hW, h1.cell 3, h2.cell 0, h2.cell 1, hl W (hfa.trans hW)⟩
  have HFA := Lib.hid hfa
  have HB0 := Lib.hid hb0
  have HB1 := Lib.hid hb1
  have HB2 := Lib.hid hb2
  have HSZ := Lib.hid hsz
  clear hl hfa hb0 hb1 hb2 hsz
  go_cut [7, 8] (fun a7 a8 wx => (a7 = .pointer (some ⟨w2.heap.size, 0, none⟩) ∧ a8 = .bool false) ∧ wx = (w2.alloc (.cells #[.int .i64 0, .int .i64 0, .int .i64 0, .int .i64 0] 50)).drew)
  case first =>
    have hk0 : Fr No w2 w2.drew := (Fr.refl _ w2).drew
    have hz := (Blk.new w2 50 #[.int .i64 0, .int .i64 0, .int .i64 0, .int .i64 0]).fr (S := No) (w' := (w2.alloc (.cells #[.int .i64 0, .int .i64 0, .int .i64 0, .int .i64 0] 50)).drew) (Fr.drew (Fr.refl _ _)) (fun h => h)
    have z0 := hz.cell 0
    have y0 := hz.frozen 0
    have z1 := hz.cell 1
    have y1 := hz.frozen 1
    have z2 := hz.cell 2
    have y2 := hz.frozen 2
    have z3 := hz.cell 3
    have y3 := hz.frozen 3
    simp only [List.getElem?_toArray, List.getElem?_cons_zero, List.getElem?_cons_succ] at z0 z1 z2 z3
    clear hz
    go_region_held3 (fun W => Fr No w2 W ∧ W.cell? ⟨r.p, 3, none⟩ = some (.map (some r.tm)) ∧ W.cell? ⟨w.heap.size + 1, 0, none⟩ = some (.int .i64 ocl) ∧ W.cell? ⟨w.heap.size + 1, 1, none⟩ = some (.int .i64 osq) ∧
        (Instr.lookup 90 (.map (some r.tm)) (.agg #[.int .i64 ocl, .int .i64 osq]) true).run Tryz.prog W = .ok (.tuple #[.agg #[.int .i64 0, .int .i64 0, .int .i64 0, .int .i64 0], .bool false]) W)
      (first
        | (with_reducible refine HX.out _ ?_; with_reducible assumption)
        | (with_reducible refine HX.out _ ?_; exact Fr.drew ((Fr.refl _ _).alloc _))
        | (with_reducible refine HX.out _ ?_; exact Fr.trans' (Fr.drew ((Fr.refl _ _).alloc _)) (fr_set4 _ _ _ _ _ _) (fun i hi hlt => by have : i = w2.heap.size := hi; omega)))
      (fail)
    all_goals
      go_wp2
      go_meet
      exact ⟨⟨rfl, rfl⟩, rfl⟩
  case rest =>
    obtain ⟨⟨rfl, rfl⟩, rfl⟩ := hcut
    have hF4 : Fr No w2 (w2.alloc (.cells #[.int .i64 0, .int .i64 0, .int .i64 0, .int .i64 0] 50)).drew := Fr.drew ((Fr.refl _ _).alloc _)
    have hy := (Blk.new w2 50 #[.int .i64 0, .int .i64 0, .int .i64 0, .int .i64 0]).fr (S := No) (w' := (w2.alloc (.cells #[.int .i64 0, .int .i64 0, .int .i64 0, .int .i64 0] 50)).drew) (Fr.drew (Fr.refl _ _)) (fun h => h)
    have HG : Hid (w2.heap.size = w.heap.size + 3) := HSZ
    have h0 := HB0.out.fr hF4 (fun h => h)
    have h1 := HB1.out.fr hF4 (fun h => h)
    have h2 := HB2.out.fr hF4 (fun h => h)
    have hfe := HFA.out.trans hF4
    clear hF4 HX HB0 HB1 HB2
    generalize (w2.alloc (.cells #[.int .i64 0, .int .i64 0, .int .i64 0, .int .i64 0] 50)).drew = w4 at *
    generalize hg : w2.heap.size = g at *
    have HY := Lib.hid hy
    have HB0 := Lib.hid h0
    have HB1 := Lib.hid h1
    have HB2 := Lib.hid h2
    have HFE := Lib.hid hfe
    have HBK : Hid (BkS w4 r.q s.b) := Lib.hid (HH.out.bk.no hfe)
    have HBR : Hid (Blk w4 r.p 92 #[.map (some r.km), .map (some r.wm), r.lv, .map (some r.tm), .pointer (some ⟨r.q.p, 0, none⟩)]) := Lib.hid (HB.out.fr hfe (fun h => h))
    have HQ : Hid (∀ k, r.q.all k → k < w.heap.size) := Lib.hid HH.out.bk.lt
    clear hy h0 h1 h2 hfe hg
    have HPQ : Hid (∀ k, r.q.wr k → k < w.heap.size ∧ k ≠ r.p ∧ k ≠ r.tm) := Lib.hid fun k hk => ⟨HQ.out k (Pl.wr_all hk), (HH.out.neb k (Pl.wr_all hk)).1, (HH.out.ne.2.2.2 k (Pl.wr_all hk)).2.2⟩
    have HX3 : Hid (∀ W, Fr (fun k => r.q.wr k ∨ k = g) w4 W → Fr (fun k => r.q.wr k ∨ k = g) w4 W ∧ W.cell? ⟨r.p, 4, none⟩ = some (.pointer (some ⟨r.q.p, 0, none⟩)) ∧ W.cell? ⟨w.heap.size + 1, 0, none⟩ = some (.int .i64 ocl) ∧ W.cell? ⟨w.heap.size + 1, 1, none⟩ = some (.int .i64 osq) ∧ W.cell? ⟨w.heap.size + 1, 2, none⟩ = some (.int .i64 okd) ∧ W.cell? ⟨w.heap.size + 1, 3, none⟩ = some (.string oac) ∧ W.cell? ⟨w.heap.size + 1, 4, none⟩ = some (.string ope) ∧ W.cell? ⟨w.heap.size + 1, 5, none⟩ = some (.int .i64 osm) ∧ W.cell? ⟨w.heap.size + 1, 6, none⟩ = some (.slice A n c) ∧ W.cell? ⟨w.heap.size + 1, 7, none⟩ = some (.int .i64 opr) ∧ W.cell? ⟨w.heap.size + 1, 8, none⟩ = some (.int .i64 ohd) ∧ W.cell? ⟨w.heap.size + 1, 9, none⟩ = some (.string ont)) := Lib.hid fun W hW => by
      have hg := HG.out
      have k1 := HBR.out.fr hW (fun e => by rcases e with e | e; exact (HPQ.out _ e).2.1 rfl; omega)
      have k2 := HB1.out.fr hW (fun e => by rcases e with e | e; (have := (HPQ.out _ e).1; omega); omega)
      exact ⟨hW, k1.cell 4, k2.cell 0, k2.cell 1, k2.cell 2, k2.cell 3, k2.cell 4, k2.cell 5, k2.cell 6, k2.cell 7, k2.cell 8, k2.cell 9⟩
    have hk3 : Fr (fun k => r.q.wr k ∨ k = g) w4 w4.drew := (Fr.refl _ _).drew
    have HGQ : Hid (¬ r.q.wr g) := Lib.hid fun e => by have := (HPQ.out _ e).1; have := HG.out; omega
    go_upto_region 3 with (fail)
    go_region_held3 (fun W => Fr (fun k => r.q.wr k ∨ k = g) w4 W ∧ W.cell? ⟨r.p, 4, none⟩ = some (.pointer (some ⟨r.q.p, 0, none⟩)) ∧ W.cell? ⟨w.heap.size + 1, 0, none⟩ = some (.int .i64 ocl) ∧ W.cell? ⟨w.heap.size + 1, 1, none⟩ = some (.int .i64 osq) ∧ W.cell? ⟨w.heap.size + 1, 2, none⟩ = some (.int .i64 okd) ∧ W.cell? ⟨w.heap.size + 1, 3, none⟩ = some (.string oac) ∧ W.cell? ⟨w.heap.size + 1, 4, none⟩ = some (.string ope) ∧ W.cell? ⟨w.heap.size + 1, 5, none⟩ = some (.int .i64 osm) ∧ W.cell? ⟨w.heap.size + 1, 6, none⟩ = some (.slice A n c) ∧ W.cell? ⟨w.heap.size + 1, 7, none⟩ = some (.int .i64 opr) ∧ W.cell? ⟨w.heap.size + 1, 8, none⟩ = some (.int .i64 ohd) ∧ W.cell? ⟨w.heap.size + 1, 9, none⟩ = some (.string ont))
      (first
        | (with_reducible refine HX3.out _ ?_; with_reducible assumption)
        | ((with_reducible refine HX3.out _ ?_); exact Fr.trans hk5 ((fr_set4 _ _ _ _ _ _).mono fun _ _ h => .inr h)))
      (first | (go_at_call 75; (with_reducible refine (HDO.out _ HFE.out.drew).mono ?_); rintro e w5 ⟨rfl, hb5, f5⟩; have hk5 : Fr (fun k => r.q.wr k ∨ k = g) w4 w5 := Fr.trans (Fr.drew (Fr.refl _ _)) (Fr.mono f5 fun _ _ h => .inl h); have hy5 := Blk.fr HY.out.drew f5 HGQ.out; have z0 := hy5.cell 0; have z1 := hy5.cell 1; have z2 := hy5.cell 2; have z3 := hy5.cell 3; have y0 := hy5.frozen 0; have y1 := hy5.frozen 1; have y2 := hy5.frozen 2; have y3 := hy5.frozen 3; simp only [List.getElem?_toArray, List.getElem?_cons_zero, List.getElem?_cons_succ] at z0 z1 z2 z3; have HY5 := Lib.hid hy5; have HB5 := Lib.hid hb5; have HF5 := Lib.hid f5; clear hy5))
    have hf6 := fr_set4 w5 g (.int .i64 re) (.int .i64 rh) (.int .i64 rs) (.int .i64 rn)
    have hy6 := HY5.out.set_ 0 (.int .i64 re) |>.set_ 1 (.int .i64 rh) |>.set_ 2 (.int .i64 rs) |>.set_ 3 (.int .i64 rn)
    simp only [List.setIfInBounds_toArray, List.set_cons_zero, List.set_cons_succ] at hy6
    clear z0 z1 z2 z3 y0 y1 y2 y3 hk5 hb5 f5 hk3
    generalize hw6 : (((w5.setCell ⟨g, 0, none⟩ (.int .i64 re)).setCell ⟨g, 1, none⟩ (.int .i64 rh)).setCell ⟨g, 2, none⟩ (.int .i64 rs)).setCell ⟨g, 3, none⟩ (.int .i64 rn) = w6 at *
    clear hw6
    have HF46 : Hid (Fr (fun k => r.q.wr k ∨ k = g) w4 w6) := Lib.hid ((Fr.trans (Fr.drew (Fr.refl _ _)) (Fr.mono HF5.out fun _ _ h => .inl h)).trans (hf6.mono fun _ _ h => .inr h))
    have HB6 : Hid (BkS w6 r.q B') := Lib.hid (HB5.out.fr hf6 fun k hk e => by have e : k = g := e; have := HQ.out k hk; have := HG.out; omega)
    have hnp : ¬ (r.q.wr r.p ∨ r.p = g) := fun e => by rcases e with e | e; exact (HPQ.out _ e).2.1 rfl; (have := HG.out; omega)
    have hn0 : ∀ k, w.heap.size ≤ k → k < g → ¬ (r.q.wr k ∨ k = g) := fun k hk hk2 e => by rcases e with e | e; (have := (HPQ.out _ e).1; omega); omega
    have HG3 := HG
    have hgg := HG.out
    have HBR6 := Lib.hid (HBR.out.fr HF46.out hnp)
    have HB06 := Lib.hid (HB0.out.fr HF46.out (hn0 _ (Nat.le_refl _) (by omega)))
    have HB16 := Lib.hid (HB1.out.fr HF46.out (hn0 _ (by omega) (by omega)))
    have HB26 := Lib.hid (HB2.out.fr HF46.out (hn0 _ (by omega) (by omega)))
    have HY6 := Lib.hid hy6
    have htmlt := HH.out.td.lt
    obtain ⟨tL, htd⟩ := HH.out.td
    have hld : tL.length ≤ 10000 := td_len HH.out.di htd
    have htd6 := ((htd.fr HFE.out (fun h => h)).fr HF46.out (fun e => by rcases e with e | e; exact (HPQ.out _ e).2.2 rfl; omega)).fr (F := No) (w' := w6.drew) (Fr.refl _ _).drew (fun h => h)
    obtain ⟨w7, hrun, htd7, hf7⟩ := htd6.put keyId Tryz.underlying90 (by simp only [maxLen]; omega) (ocl, osq) HIO.out (.agg #[.int .i64 re, .int .i64 rh, .int .i64 rs, .int .i64 rn])
    have HT7 : Hid (TdT w7 r.tm (s.did ++ [od]) (s.tr ++ [⟨re, rh, rs, rn⟩])) := Lib.hid (by
      have e1 : (ocl, osq) = od.id := by rw [HOD.out]; rfl
      rw [e1] at htd7
      have e2 := tdF_put (did := s.did) (tr := s.tr) HH.out.di.len od ⟨re, rh, rs, rn⟩
      rw [show (Value.agg #[.int .i64 re, .int .i64 rh, .int .i64 rs, .int .i64 rn]) = Rp.val ⟨re, rh, rs, rn⟩ from rfl, e2] at htd7
      exact ⟨_, htd7⟩)
    have hf7' : Fr (At1 r.tm) w6 w7 := Fr.trans (Fr.drew (Fr.refl _ _)) hf7
    have HF7 := Lib.hid hf7'
    simp only at hrun
    have HX4 : Hid (∀ W, Fr (At1 r.tm) w6 W → Fr (At1 r.tm) w6 W ∧ W.cell? ⟨r.p, 3, none⟩ = some (.map (some r.tm)) ∧ W.cell? ⟨w.heap.size + 1, 0, none⟩ = some (.int .i64 ocl) ∧ W.cell? ⟨w.heap.size + 1, 1, none⟩ = some (.int .i64 osq) ∧ W.cell? ⟨g, 0, none⟩ = some (.int .i64 re) ∧ W.cell? ⟨g, 1, none⟩ = some (.int .i64 rh) ∧ W.cell? ⟨g, 2, none⟩ = some (.int .i64 rs) ∧ W.cell? ⟨g, 3, none⟩ = some (.int .i64 rn)) := Lib.hid fun W hW => by
      have k1 := HBR6.out.fr hW (fun e => by have e : r.p = r.tm := e; exact HH.out.net.1 e.symm)
      have k2 := HB16.out.fr hW (fun e => by have e : w.heap.size + 1 = r.tm := e; omega)
      have k3 := HY6.out.fr hW (fun e => by have e : g = r.tm := e; omega)
      exact ⟨hW, k1.cell 3, k2.cell 0, k2.cell 1, k3.cell 0, k3.cell 1, k3.cell 2, k3.cell 3⟩
    have hk4 : Fr (At1 r.tm) w6 w6.drew := (Fr.refl _ _).drew
    clear htd htd6 htd7 hf7 hld hnp hn0 hf6 hy6 HX3 hgg
    go_upto_region 4 with (fail)
    go_region_held3 (fun W => Fr (At1 r.tm) w6 W ∧ W.cell? ⟨r.p, 3, none⟩ = some (.map (some r.tm)) ∧ W.cell? ⟨w.heap.size + 1, 0, none⟩ = some (.int .i64 ocl) ∧ W.cell? ⟨w.heap.size + 1, 1, none⟩ = some (.int .i64 osq) ∧ W.cell? ⟨g, 0, none⟩ = some (.int .i64 re) ∧ W.cell? ⟨g, 1, none⟩ = some (.int .i64 rh) ∧ W.cell? ⟨g, 2, none⟩ = some (.int .i64 rs) ∧ W.cell? ⟨g, 3, none⟩ = some (.int .i64 rn))
      (with_reducible refine HX4.out _ ?_; with_reducible assumption)
      (fail)
    have hg2 := HG.out
    have hntp : ¬ At1 r.tm r.p := fun e => by have e : r.p = r.tm := e; exact HH.out.net.1 e.symm
    have hnt0 : ∀ k, w.heap.size ≤ k → ¬ At1 r.tm k := fun k hk e => by have e : k = r.tm := e; omega
    have hbr7 := HBR6.out.fr HF7.out hntp
    have hb17 := HB16.out.fr HF7.out (hnt0 _ (by omega))
    have HB07 := Lib.hid (HB06.out.fr HF7.out (hnt0 _ (by omega)))
    have HB27 := Lib.hid (HB26.out.fr HF7.out (hnt0 _ (by omega)))
    have HY7 := Lib.hid (HY6.out.fr HF7.out (hnt0 _ (by omega)))
    have HB17 := Lib.hid hb17
    have HBR7 := Lib.hid hbr7
    have HQ67 : Hid (Fr (fun k => r.q.wr k ∨ k = g ∨ k = r.tm) w4 w7) := Lib.hid ((HF46.out.mono fun _ _ h => h.elim (fun h => .inl h) (fun h => .inr (.inl h))).trans (HF7.out.mono fun _ _ h => .inr (.inr h)))
    have hlvn : ∀ k, r.lv.ownBlock = some k → k < w.heap.size ∧ ¬ (r.q.wr k ∨ k = g ∨ k = r.tm) := fun k hk => by
      obtain ⟨cur, hcur⟩ := HH.out.ls.blk k hk
      have hlt := hcur.lt
      refine ⟨hlt, fun e => ?_⟩
      rcases e with e | e | e
      · exact (HH.out.neb k (Pl.wr_all e)).2 k hk rfl
      · omega
      · exact HH.out.net.2 k hk e.symm
    have hEn : ∀ k, r.E k → k < w.heap.size ∧ ¬ (r.q.wr k ∨ k = g ∨ k = r.tm) := fun k hk => by
      have hlt := HH.out.lt k hk
      have ha := HH.out.ap k hk
      refine ⟨hlt, fun e => ?_⟩
      rcases e with e | e | e
      · exact ha (.inr (.inr (.inr (.inr (.inl (Pl.wr_all e))))))
      · omega
      · exact ha (.inr (.inr (.inr (.inl e))))
    have HLS7 : Hid (LsT w7 r.E r.lv s.did) := Lib.hid ((HH.out.ls.fr HFE.out (fun _ _ h => h) (fun _ _ _ h => h) (fun _ h => h)).fr HQ67.out (fun k hk => (hlvn k hk).2) (fun k hk _ => (hEn k hk).2) (fun _ h => h))
    obtain ⟨cells, hown7, hE7⟩ := HLS7.out
    have HOW7 : Hid (∀ W, Fr No w7 W → Own W 35 10 r.lv s.did.length cells) := Lib.hid fun W hW => hown7.fr hW (fun _ _ h => h)
    have HE7 := Lib.hid hE7
    have HLVN := Lib.hid hlvn
    have HEN := Lib.hid hEn
    have hdl : s.did.length ≤ 10000 := HH.out.di.few
    have HX5 : Hid (∀ W, Fr No w7 W → W.cell? ⟨r.p, 2, none⟩ = some r.lv ∧ W.cell? ⟨w.heap.size + 1, 0, none⟩ = some (.int .i64 ocl) ∧ W.cell? ⟨w.heap.size + 1, 1, none⟩ = some (.int .i64 osq) ∧ W.cell? ⟨w.heap.size + 1, 2, none⟩ = some (.int .i64 okd) ∧ W.cell? ⟨w.heap.size + 1, 3, none⟩ = some (.string oac) ∧ W.cell? ⟨w.heap.size + 1, 4, none⟩ = some (.string ope) ∧ W.cell? ⟨w.heap.size + 1, 5, none⟩ = some (.int .i64 osm) ∧ W.cell? ⟨w.heap.size + 1, 6, none⟩ = some (.slice A n c) ∧ W.cell? ⟨w.heap.size + 1, 7, none⟩ = some (.int .i64 opr) ∧ W.cell? ⟨w.heap.size + 1, 8, none⟩ = some (.int .i64 ohd) ∧ W.cell? ⟨w.heap.size + 1, 9, none⟩ = some (.string ont)) := Lib.hid fun W hW => by
      have k1 := HBR7.out.fr hW (fun h => h)
      have k2 := HB17.out.fr hW (fun h => h)
      exact ⟨k1.cell 2, k2.cell 0, k2.cell 1, k2.cell 2, k2.cell 3, k2.cell 4, k2.cell 5, k2.cell 6, k2.cell 7, k2.cell 8, k2.cell 9⟩
    obtain ⟨x0, x1, x2, x3, x4, x5, x6, x7, x8, x9, x10⟩ := HX5.out w7.drew (Fr.refl _ _).drew
    obtain ⟨y0, y1, y2, y3, y4, y5, y6, y7, y8, y9, y10⟩ := HX5.out (w7.alloc (.cells #[.int .i64 ocl, .int .i64 osq, .int .i64 okd, .string oac, .string ope, .int .i64 osm, .slice A n c, .int .i64 opr, .int .i64 ohd, .string ont] 35)).drew (Fr.drew ((Fr.refl _ _).alloc _))
    have HNEL := Lib.hid HH.out.nel
    have hOC : Fr No w7 (w7.alloc (.cells #[.int .i64 ocl, .int .i64 osq, .int .i64 okd, .string oac, .string ope, .int .i64 osm, .slice A n c, .int .i64 opr, .int .i64 ohd, .string ont] 35)).drew := Fr.drew ((Fr.refl _ _).alloc _)
    have HAT : Hid (∀ (w8 : World) (v' : Value), Fr (AtO r.lv.ownBlock) (w7.alloc (.cells #[.int .i64 ocl, .int .i64 osq, .int .i64 okd, .string oac, .string ope, .int .i64 osm, .slice A n c, .int .i64 opr, .int .i64 ohd, .string ont] 35)).drew w8 →
        Blk (w8.setCell ⟨r.p, 2, none⟩ v') w.heap.size 30 #[.int .i64 i1, .int .i64 i2] ∧ Blk (w8.setCell ⟨r.p, 2, none⟩ v') (w.heap.size + 1) 35 #[.int .i64 ocl, .int .i64 osq, .int .i64 okd, .string oac, .string ope, .int .i64 osm, .slice A n c, .int .i64 opr, .int .i64 ohd, .string ont] ∧ Blk (w8.setCell ⟨r.p, 2, none⟩ v') (w.heap.size + 2) 82 #[.int .i64 0, .int .i64 0, .int .i64 0, .int .i64 0, .int .i64 0, .int .i64 0, .int .i64 0, .int .i64 0, .bool false] ∧ Blk (w8.setCell ⟨r.p, 2, none⟩ v') g 50 #[.int .i64 re, .int .i64 rh, .int .i64 rs, .int .i64 rn]) := Lib.hid fun w8 v' h8 => by
      have hg2 := HG.out
      have e1 : ∀ k, w.heap.size ≤ k → ¬ AtO r.lv.ownBlock k := fun k hk e => by have := (HLVN.out k e).1; omega
      have e2 : ∀ k, w.heap.size ≤ k → ¬ At1 r.p k := fun k hk e => by have e : k = r.p := e; omega
      have hfs := fr_set w8 r.p 2 v'
      exact ⟨((HB07.out.fr hOC (fun h => h)).fr h8 (e1 _ (Nat.le_refl _))).fr hfs (e2 _ (Nat.le_refl _)), ((HB17.out.fr hOC (fun h => h)).fr h8 (e1 _ (by omega))).fr hfs (e2 _ (by omega)), ((HB27.out.fr hOC (fun h => h)).fr h8 (e1 _ (by omega))).fr hfs (e2 _ (by omega)), ((HY7.out.fr hOC (fun h => h)).fr h8 (e1 _ (by omega))).fr hfs (e2 _ (by omega))⟩
    have HEND : Hid (∀ (w8 wE : World) (A8 : Option Addr) (c8 : Nat), Own w8 35 10 (.slice A8 (s.did.length + 1) c8) (s.did.length + 1) (cells ++ [.int .i64 ocl, .int .i64 osq, .int .i64 okd, .string oac, .string ope, .int .i64 osm, .slice A n c, .int .i64 opr, .int .i64 ohd, .string ont]) → Fr (AtO r.lv.ownBlock) (w7.alloc (.cells #[.int .i64 ocl, .int .i64 osq, .int .i64 okd, .string oac, .string ope, .int .i64 osm, .slice A n c, .int .i64 opr, .int .i64 ohd, .string ont] 35)).drew w8 → ((Value.slice A8 (s.did.length + 1) c8).ownBlock = r.lv.ownBlock ∨ (Value.slice A8 (s.did.length + 1) c8).ownBlock = some (w7.alloc (.cells #[.int .i64 ocl, .int .i64 osq, .int .i64 okd, .string oac, .string ope, .int .i64 osm, .slice A n c, .int .i64 opr, .int .i64 ohd, .string ont] 35)).drew.heap.size) →
        Fr (At1 (w.heap.size + 2)) (w8.setCell ⟨r.p, 2, none⟩ (.slice A8 (s.did.length + 1) c8)) wE → ExcM r w { s with did := s.did ++ [od], tr := s.tr ++ [⟨re, rh, rs, rn⟩], b := B' } wE) := Lib.hid fun w8 wE A8 c8 ho8 hf8 hn8 hfE => by
      have hg2 := HG.out
      have hfs := fr_set w8 r.p 2 (.slice A8 (s.did.length + 1) c8)
      have h07 : Fr r.wx w w7 := (HFE.out.mono (fun _ _ h => False.elim h) : Fr r.wx w w4).trans' HQ67.out (fun k hk hlt => by
        rcases hk with hk | hk | hk
        · exact .inr (.inr (.inl (Pl.wr_all hk)))
        · omega
        · exact .inr (.inl hk))
      have h08 : Fr r.wx w w8 := (h07.trans' hOC (fun _ h _ => False.elim h)).trans' hf8 (fun k hk hlt => .inr (.inr (.inr hk)))
      have hT : Fr r.wx w wE := (h08.trans' hfs (fun k hk hlt => .inl hk)).trans' hfE (fun k hk hlt => by have hk : k = w.heap.size + 2 := hk; omega)
      have h7E : Fr (fun k => r.lv.ownBlock = some k ∨ k = r.p ∨ k = w.heap.size + 2) w7 wE := (((hOC.mono (fun _ _ h => False.elim h) : Fr _ w7 _).trans (hf8.mono fun _ _ h => .inl h)).trans (hfs.mono fun _ _ h => .inr (.inl h))).trans (hfE.mono fun _ _ h => .inr (.inr h))
      have hEwx : ∀ k, r.E k → ¬ r.wx k := fun k hk e => HH.out.ap k hk (Pr.wx_wr e)
      have hkm : ¬ r.wx r.km := fun e => by
        rcases e with e | e | e | e
        · exact HH.out.nek.1 e
        · exact HH.out.ne.2.1 e
        · exact (HH.out.ne.2.2.2 _ e).1 rfl
        · exact HH.out.nek.2 _ e rfl
      have hwm : ¬ r.wx r.wm := fun e => by
        rcases e with e | e | e | e
        · exact HH.out.new_.1 e
        · exact HH.out.ne.2.2.1 e
        · exact (HH.out.ne.2.2.2 _ e).2.1 rfl
        · exact HH.out.new_.2 _ e rfl
      have h7s := h07.size
      have hE7 : ∀ k, r.E k → k < w7.heap.size → ¬ (r.lv.ownBlock = some k ∨ k = r.p ∨ k = w.heap.size + 2) := fun k hk _ e => by
        have h1 := (HEN.out k hk).1
        have h2 := HH.out.ap k hk
        rcases e with e | e | e
        · exact h2 (.inr (.inr (.inr (.inr (.inr e)))))
        · exact h2 (.inl e)
        · omega
      have hnew : ∀ k, (Value.slice A8 (s.did.length + 1) c8).ownBlock = some k → r.lv.ownBlock = some k ∨ w7.heap.size ≤ k := fun k hk => by
        rcases hn8 with e | e
        · exact .inl (e ▸ hk)
        · rw [e] at hk
          injection hk with hk
          have hs : (w7.alloc (.cells #[.int .i64 ocl, .int .i64 osq, .int .i64 okd, .string oac, .string ope, .int .i64 osm, .slice A n c, .int .i64 opr, .int .i64 ohd, .string ont] 35)).drew.heap.size = w7.heap.size + 1 := by
            show (w7.alloc _).heap.size = _
            rw [World.size_alloc]
          exact .inr (by omega)
      have h47 := HQ67.out.size
      have h04 := HFE.out.size
      have hb1 := HB17.out.lt
      have hb2 := HB27.out.lt
      refine ⟨.slice A8 (s.did.length + 1) c8, ⟨?_, HH.out.kn.fr hT hkm (fun k hk _ => hEwx k hk) (fun _ h => h), HH.out.wt.fr hT hwm, ?_, ?_, ?_, fun k hk => Nat.lt_of_lt_of_le (HH.out.lt k hk) hT.size, ?_, HH.out.ne, HDI.out⟩, hT, ?_⟩
      · have h := (((HBR7.out.fr hOC (fun h => h)).fr hf8 (fun e => HNEL.out _ e rfl)).set_ 2 (.slice A8 (s.did.length + 1) c8)).fr hfE (fun e => by have e : r.p = w.heap.size + 2 := e; omega)
        simpa only [List.setIfInBounds_toArray, List.set_cons_zero, List.set_cons_succ] using h
      · refine ⟨cells ++ [.int .i64 ocl, .int .i64 osq, .int .i64 okd, .string oac, .string ope, .int .i64 osm, .slice A n c, .int .i64 opr, .int .i64 ohd, .string ont], ?_, ?_⟩
        · show Own wE 35 10 _ (s.did ++ [od]).length _
          rw [List.length_append]
          refine (ho8.fr hfs (fun k hk e => ?_)).fr hfE (fun k hk e => ?_)
          · have e : k = r.p := e
            rcases hnew k hk with h | h
            · exact HNEL.out k h e.symm
            · omega
          · have e : k = w.heap.size + 2 := e
            rcases hnew k hk with h | h
            · have := (HLVN.out k h).1; omega
            · omega
        · refine each_snoc (each_imp HE7.out fun cs x hx => hx.frS h7E hE7 (fun _ h => h)) (by omega) rfl ⟨.slice A n c, ?_, HOK.out, HGS.out, ?_⟩
          · rw [HOD.out]; rfl
          · have : od.legs = olg := by rw [HOD.out]
            rw [this]
            exact HLV.out.frS hT (fun k hk _ => hEwx k hk)
      · exact HT7.out.fr h7E (fun e => by
          rcases e with e | e | e
          · exact HH.out.net.2 _ e rfl
          · exact HH.out.net.1 e
          · omega)
      · refine (HB6.out.fr HF7.out (fun k hk e => ?_)).fr h7E (fun k hk e => ?_)
        · exact (HH.out.ne.2.2.2 k hk).2.2 e
        · have h1 := HH.out.neb k hk
          rcases e with e | e | e
          · exact h1.2 k e rfl
          · exact h1.1 e
          · have := HQ.out k hk; omega
      · intro k hk e
        have h2 := HH.out.ap k hk
        rcases e with e | e | e | e | e | e
        · exact h2 (.inl e)
        · exact h2 (.inr (.inl e))
        · exact h2 (.inr (.inr (.inl e)))
        · exact h2 (.inr (.inr (.inr (.inl e))))
        · exact h2 (.inr (.inr (.inr (.inr (.inl e)))))
        · rcases hnew k e with h | h
          · exact h2 (.inr (.inr (.inr (.inr (.inr h)))))
          · have := HH.out.lt k hk; omega
      · rcases hn8 with e | e
        · exact .inl e
        · refine .inr ⟨_, e, ?_⟩
          show w.heap.size ≤ (w7.alloc _).heap.size
          rw [World.size_alloc]
          omega
    clear hg2 hntp hnt0 hbr7 hb17 hlvn hEn hown7 hE7 HX4 hk4 hf7' hrun hOC
    go_upto_region 5 with (fail)
    go_region_law (refine step_app _ rfl (.tmp 38) (.tmp 40) 55 55 rfl elO (HOW7.out _ (by first | exact Fr.drew ((Fr.refl _ _).alloc _) | exact (Fr.drew (Fr.refl _ _)).alloc _)) rfl (by exact Src.of_new (cs := #[.int .i64 ocl, .int .i64 osq, .int .i64 okd, .string oac, .string ope, .int .i64 osm, .slice A n c, .int .i64 opr, .int .i64 ohd, .string ont]) (t := 35) w7.heap.size (heap_alloc_new w7 _) Tryz.underlying55 rfl (by simp [Value.oneCell'])) rfl (by simp only [maxLen]; omega) (by omega) ?_; intro v8 w8 hown8 hfr8 hnew8; obtain ⟨A8, c8, rfl, -, -⟩ := hown8.form; have hb8 := (HBR7.out.fr (S := No) (w' := (w7.alloc (.cells #[.int .i64 ocl, .int .i64 osq, .int .i64 okd, .string oac, .string ope, .int .i64 osm, .slice A n c, .int .i64 opr, .int .i64 ohd, .string ont] 35)).drew) (Fr.drew ((Fr.refl _ _).alloc _)) (fun h => h)).fr hfr8 (fun e => HNEL.out _ e rfl); have kc := hb8.cell 2; have kf := hb8.frozen 2; simp only [List.getElem?_toArray, List.getElem?_cons_zero, List.getElem?_cons_succ] at kc)
    all_goals
      obtain ⟨b0, b1, b2, b3⟩ := HAT.out w8 (.slice A8 (s.did.length + 1) c8) hfr8
      have HE9 := Lib.hid (HEND.out w8)
      have HO8 := Lib.hid hown8
      have HF8 := Lib.hid hfr8
      have HN8 := Lib.hid hnew8
      have HD := Lib.hid (b2.set_ 0 (.int .i64 i1) |>.set_ 1 (.int .i64 i2) |>.set_ 2 (.int .i64 ocl) |>.set_ 3 (.int .i64 osq) |>.set_ 4 (.int .i64 re) |>.set_ 5 (.int .i64 rh) |>.set_ 6 (.int .i64 rs) |>.set_ 7 (.int .i64 rn) |>.set_ 8 (.bool false))
      have q0 := b3.cell 0
      have q1 := b3.cell 1
      have q2 := b3.cell 2
      have q3 := b3.cell 3
      have p0 := b0.cell 0
      have p1 := b0.cell 1
      have o0 := b1.cell 0
      have o1 := b1.cell 1
      have v0 := b2.cell 0
      have v1 := b2.cell 1
      have v2 := b2.cell 2
      have v3 := b2.cell 3
      have v4 := b2.cell 4
      have v5 := b2.cell 5
      have v6 := b2.cell 6
      have v7 := b2.cell 7
      have v8 := b2.cell 8
      have u0 := b2.frozen 0
      have u1 := b2.frozen 1
      have u2 := b2.frozen 2
      have u3 := b2.frozen 3
      have u4 := b2.frozen 4
      have u5 := b2.frozen 5
      have u6 := b2.frozen 6
      have u7 := b2.frozen 7
      have u8 := b2.frozen 8
      simp only [List.getElem?_toArray, List.getElem?_cons_zero, List.getElem?_cons_succ] at q0 q1 q2 q3 p0 p1 o0 o1 v0 v1 v2 v3 v4 v5 v6 v7 v8
      clear b0 b1 b2 b3 hown8 hfr8 hnew8 hb8 kc kf x0 x1 x2 x3 x4 x5 x6 x7 x8 x9 x10 y0 y1 y2 y3 y4 y5 y6 y7 y8 y9 y10
      have HEQ : Hid (∀ wE, Fr (At1 (w.heap.size + 2)) (w8.setCell ⟨r.p, 2, none⟩ (.slice A8 (s.did.length + 1) c8)) wE → ExcM r w { s with did := s.did ++ [od], tr := s.tr ++ [⟨re, rh, rs, rn⟩], b := B' } wE) := Lib.hid fun wE hE => HE9.out wE A8 c8 HO8.out HF8.out HN8.out hE
      clear HE9
      generalize w8.setCell ⟨r.p, 2, none⟩ (.slice A8 (s.did.length + 1) c8) = w9 at *
      go_wp2
      have hd := HD.out
      simp only [List.setIfInBounds_toArray, List.set_cons_zero, List.set_cons_succ] at hd
      have d0 := hd.cell 0
      have d1 := hd.cell 1
      have d2 := hd.cell 2
      have d3 := hd.cell 3
      have d4 := hd.cell 4
      have d5 := hd.cell 5
      have d6 := hd.cell 6
      have d7 := hd.cell 7
      have d8 := hd.cell 8
      simp only [List.getElem?_toArray, List.getElem?_cons_zero, List.getElem?_cons_succ] at d0 d1 d2 d3 d4 d5 d6 d7 d8
      refine bodyPost_ret (v := .agg #[.int .i64 i1, .int .i64 i2, .int .i64 ocl, .int .i64 osq, .int .i64 re, .int .i64 rh, .int .i64 rs, .int .i64 rn, .bool false]) (by simp [results, Tryz.results55, go_sem, d0, d1, d2, d3, d4, d5, d6, d7, d8]) rfl ?_
      exact ⟨rfl, HEQ.out _ (((((((((fr_set _ _ _ _).trans (fr_set _ _ _ _)).trans (fr_set _ _ _ _)).trans (fr_set _ _ _ _)).trans (fr_set _ _ _ _)).trans (fr_set _ _ _ _)).trans (fr_set _ _ _ _)).trans (fr_set _ _ _ _)).trans (fr_set _ _ _ _))⟩
theorem exec_new (w : World) (r : Pr) (s : Ru) (i : In2) (o : Od) (A : Option Addr) (c : Nat) (h : RnM w r s) (ho : o.ok) (hgs : ∀ g ∈ o.legs, g.ok) (hr : rightO o = true) (hv : LgS w r.E (.slice A o.legs.length c) o.legs) (hx : lookT s.did s.tr o.id = none) :
    Calls Tryz.prog 55 #[.pointer (some ⟨r.p, 0, none⟩), .agg #[.int .i64 i.1, .int .i64 i.2], o.val (.slice A o.legs.length c)] w fun e w' => e = .returned (.agg (ddC ⟨i, o.id, doR s.b o, false⟩).toArray) ∧ ExcM r w { s with did := s.did ++ [o], tr := s.tr ++ [doR s.b o], b := doB s.b o } w' := by
  have hdi : DiI { s with did := s.did ++ [o], tr := s.tr ++ [doR s.b o], b := doB s.b o } := by
    have h1 := h.di.exO ho hr
    rw [(Ru.exD_none (i := i) hx).2] at h1
    exact h1
  have hdo : ∀ W, Fr No w W → Calls Tryz.prog 75 #[.pointer (some ⟨r.q.p, 0, none⟩), o.val (.slice A o.legs.length c)] W (DidB r.q (doR s.b o) (doB s.b o) W) := fun W hW => do_any r.E r.q s.b o _ W (h.bk.no hW) ho (hv.no hW) fun k hk => ⟨Nat.lt_of_lt_of_le (h.lt k hk) hW.size, fun e => h.ap k hk (.inr (.inr (.inr (.inr (.inl (.inr (.inr (.inl e)))))))) ⟩
  have hio := id_ok ho
  generalize doR s.b o = R at *
  generalize doB s.b o = B' at *
  obtain ⟨re, rh, rs, rn⟩ := R
  obtain ⟨i1, i2⟩ := i
  obtain ⟨ocl, osq, okd, oac, ope, osm, olg, opr, ohd, ont⟩ := o
  exact exec_new0 w r s i1 i2 ⟨ocl, osq, okd, oac, ope, osm, olg, opr, ohd, ont⟩ ocl osq okd oac ope osm olg opr ohd ont A olg.length c re rh rs rn B' rfl rfl h ho hgs hv hdo hdi hx hio
end Go.Proofs.YtcpgamidimfflaaGreat
namespace Go.Proofs.YtcpgamidimfflaaGreat
open Go.RowKit Go.My Go.Maps Go.WideMaps
set_option linter.unusedSimpArgs false
set_option linter.unusedVariables false
attribute [local go_sem ↓] Go.wp_at_zero Go.wp_at_succ
def nuF (l : List In2) (i : Idk) : Option Value := (posF l i).map fun n => .int .i64 (n : Int)
theorem nuF_put (l : List In2) (i : In2) : updI (nuF l) i (.int .i64 (l.length : Int)) = nuF (l ++ [i]) := by
  funext j
  unfold updI nuF
  rw [posF_snoc]
  by_cases h : j = i
  · rw [if_pos h, if_pos h.symm]; rfl
  · rw [if_neg h, if_neg (fun e => h e.symm)]
theorem nu_len {P : Program} {kt : TypeId} {w : World} {m : Nat} {L : List Idk} {l : List In2} (h : TabI P kt w m L (nuF l)) : L.length ≤ l.length :=
  (nodup_len h.nd fun x hx => by
    have h1 := (h.mem x).1 hx
    unfold nuF at h1
    have h2 : (posF l x).isSome = true := by
      cases hp : posF l x with
      | none => rw [hp] at h1; cases h1
      | some n => rfl
    rw [posF_isSome] at h2
    exact of_decide_eq_true h2).1
def NuRel (w : World) (m : Nat) (l : List In2) (iv : Value) (wr : World) : Prop := ∃ k : Nat, k ≤ l.length ∧ iv = .int .i64 k ∧ (∃ L, TabI Tryz.prog 30 wr m L (nuF (l.take k))) ∧ Fr No w wr
def NuT (w : World) (m : Nat) (l : List In2) : Prop := ∃ L, TabI Tryz.prog 30 w m L (nuF l)
theorem NuT.no {w w' : World} {m : Nat} {l : List In2} (h : NuT w m l) (hf : Fr No w w') : NuT w' m l := by
  obtain ⟨L, h⟩ := h
  exact ⟨L, h.fr hf (fun h => h)⟩
theorem NuT.look {w : World} {m : Nat} {l : List In2} (h : NuT w m l) (i : In2) (hi : IdOk i) :
    (Instr.lookup 164 (.map (some m)) (.agg #[.int .i64 i.1, .int .i64 i.2]) true).run Tryz.prog w = .ok (.tuple #[.int .i64 (posO (posF l i)), .bool (posF l i).isSome]) w := by
  obtain ⟨L, h⟩ := h
  rw [h.look_ok keyIn Tryz.underlying164 (zeroInt14 w) i hi]
  unfold nuF
  cases posF l i <;> rfl
set_option maxRecDepth 100000 in
set_option maxHeartbeats 1000000 in
theorem numbers_any (w : World) (F : Nat → Prop) (A : Option Addr) (c : Nat) (l : List In2) (hl : Rd w F 2 A l.length (ins2 l)) (hn : l.length ≤ 1000000) (hok : ∀ i ∈ l, IdOk i) :
    Calls Tryz.prog 87 #[.slice A l.length c] w fun e w' => ∃ m, e = .returned (.map (some m)) ∧ NuT w' m l ∧ Fr No w w' ∧ w.heap.size ≤ m := by
  have HL := Lib.hid hl
  have HO := Lib.hid hok
  have hmm := @run_makeMap Tryz.prog
  have h0 : TabI Tryz.prog 30 (w.alloc (.map #[] 0)) w.heap.size [] (nuF (l.take 0)) := TabI.made w
  have HI0 := Lib.hid h0
  have HF0 : Hid (Fr No w (w.alloc (.map #[] 0))) := (Fr.refl _ _).alloc _
  clear hl h0 hok
  go_enter Tryz.func87, Tryz.ntmps87
  go_wp2
  go_loopw [9] (fun iv wr => NuRel w w.heap.size l iv wr) (fun iv _ => l.length - (intOf iv).toNat)
  case atStart => exact ⟨0, Nat.zero_le _, rfl, ⟨_, HI0.out⟩, HF0.out⟩
  case round =>
    obtain ⟨k, hk, rfl, ⟨L, hm⟩, hfr⟩ := hrel
    have hk62 : (k : Int) ≤ 1000000 := by omega
    by_cases hlt : k < l.length
    · obtain ⟨ad, rfl, _, p0, p1⟩ := in2_at (HL.out.fr (by decide) hfr (fun _ _ _ h => h)) k hlt
      have hlk : (l.take k).length = k := by rw [List.length_take]; omega
      have HTK : Hid (l.take (k + 1) = l.take k ++ [l[k]]) := List.take_succ_eq_append_getElem hlt
      have hxo := HO.out _ (List.getElem_mem hlt)
      have HM := Lib.hid hm
      have HFR := Lib.hid hfr
      have hll := nu_len hm
      have hml := hm.lt
      have HPU : Hid (updI (nuF (l.take k)) l[k] (.int .i64 (k : Int)) = nuF (l.take (k + 1))) := by
        show _ = _
        rw [HTK.out, ← nuF_put, hlk]
      have HXO := Lib.hid hxo
      clear hm hfr hxo HTK
      generalize l[k] = x at *
      obtain ⟨x1, x2⟩ := x
      go_wp2_with (at_mapUpdate; refine wpList_putK rfl (.tmp 14) (.tmp 15) (.tmp 16) 164 3 rfl keyIn Tryz.underlying164 rfl (HM.out.fr ((Fr.refl No _).alloc _) (fun h => h)) (x1, x2) HXO.out (.int .i64 (k : Int)) rfl rfl (by simp only [maxLen]; omega) ?_; intro w3 hm3 hf3)
      rw [HPU.out] at hm3
      have HM3 := Lib.hid hm3
      have HF3 : Hid (Fr No w w3) := (HFR.out.alloc _).trans' hf3 (fun i hi hlt2 => by have : i = w.heap.size := hi; omega)
      clear hm3 hf3
      go_roundw
      case rel => exact ⟨k + 1, by omega, by go_num, ⟨_, HM3.out⟩, HF3.out⟩
      case measure => simp [intOf]; omega
    · obtain rfl : k = l.length := by omega
      rw [List.take_length] at hm
      go_wp2
      go_ret
      exact ⟨_, rfl, ⟨_, hm⟩, hfr, Nat.le_refl _⟩
end Go.Proofs.YtcpgamidimfflaaGreat
set_option linter.unusedVariables false
set_option linter.unusedSimpArgs false
namespace Go.My.Hp
def Hp (f : Nat → Int) (n : Nat) : Prop := ∀ k, 0 < k → k < n → f ((k - 1) / 2) ≤ f k
def Up (f : Nat → Int) (n j : Nat) : Prop := (∀ k, 0 < k → k < n → k ≠ j → f ((k - 1) / 2) ≤ f k) ∧ (∀ k, 0 < k → k < n → (k - 1) / 2 = j → 0 < j → f ((j - 1) / 2) ≤ f k)
def Dn (f : Nat → Int) (n i : Nat) : Prop := (∀ k, 0 < k → k < n → (k - 1) / 2 ≠ i → f ((k - 1) / 2) ≤ f k) ∧ (∀ k, 0 < k → k < n → (k - 1) / 2 = i → 0 < i → f ((i - 1) / 2) ≤ f k)
def sw (f : Nat → Int) (i j : Nat) : Nat → Int := fun k => if k = i then f j else if k = j then f i else f k
theorem sw_i (f : Nat → Int) (i j : Nat) : sw f i j i = f j := if_pos rfl
theorem sw_j (f : Nat → Int) (i j : Nat) : sw f i j j = f i := by
  unfold sw; by_cases h : j = i
  · rw [if_pos h, h]
  · rw [if_neg h, if_pos rfl]
theorem sw_ne (f : Nat → Int) {i j k : Nat} (h1 : k ≠ i) (h2 : k ≠ j) : sw f i j k = f k := by unfold sw; rw [if_neg h1, if_neg h2]
theorem Hp.min {f : Nat → Int} {n : Nat} (h : Hp f n) (k : Nat) (hk : k < n) : f 0 ≤ f k := by
  induction k using Nat.strongRecOn with
  | _ k ih =>
    by_cases h0 : k = 0
    · subst h0; exact Int.le_refl _
    · exact Int.le_trans (ih ((k - 1) / 2) (by omega) (by omega)) (h k (by omega) hk)
theorem Hp.up {f : Nat → Int} {n : Nat} (h : Hp f n) : Up f (n + 1) n := ⟨fun k h0 h1 h2 => h k h0 (by omega), fun k h0 h1 h2 h3 => by omega⟩
theorem Up.done {f : Nat → Int} {n j : Nat} (h : Up f n j) (hd : 0 < j → f ((j - 1) / 2) ≤ f j) : Hp f n := fun k h0 h1 => by
  by_cases e : k = j
  · subst e; exact hd h0
  · exact h.1 k h0 h1 e
theorem Up.step {f : Nat → Int} {n j : Nat} (h : Up f n j) (hj : 0 < j) (hjn : j < n) (hl : f j < f ((j - 1) / 2)) : Up (sw f ((j - 1) / 2) j) n ((j - 1) / 2) := by
  generalize hi : (j - 1) / 2 = i at *
  have hij : i < j := by omega
  refine ⟨fun k h0 h1 h2 => ?_, fun k h0 h1 h2 h3 => ?_⟩
  · by_cases e : k = j
    · subst e
      rw [hi, sw_i, sw_j]; omega
    · rw [sw_ne f h2 e]
      by_cases e2 : (k - 1) / 2 = j
      · rw [e2, sw_j, ← hi]
        exact h.2 k h0 h1 e2 hj
      · by_cases e3 : (k - 1) / 2 = i
        · rw [e3, sw_i]
          have := h.1 k h0 h1 e
          rw [e3] at this
          omega
        · rw [sw_ne f e3 e2]
          exact h.1 k h0 h1 e
  · have hp : (i - 1) / 2 ≠ i ∧ (i - 1) / 2 ≠ j := by omega
    rw [sw_ne f hp.1 hp.2]
    have hi0 := h.1 i h3 (by omega) (by omega)
    by_cases e : k = j
    · subst e; rw [sw_j]; exact hi0
    · rw [sw_ne f (by omega) e]
      have := h.1 k h0 h1 e
      rw [h2] at this
      omega
theorem Dn.step {f : Nat → Int} {n i j : Nat} (h : Dn f n i) (hj : j < n) (hp : (j - 1) / 2 = i) (hj0 : 0 < j) (hs : ∀ k, 0 < k → k < n → (k - 1) / 2 = i → f j ≤ f k) (hl : f j < f i) : Dn (sw f i j) n j := by
  have hij : i < j := by omega
  refine ⟨fun k h0 h1 h2 => ?_, fun k h0 h1 h2 h3 => ?_⟩
  · by_cases e : (k - 1) / 2 = i
    · rw [e, sw_i]
      by_cases e2 : k = j
      · subst e2; rw [sw_j]; omega
      · rw [sw_ne f (by omega) e2]
        exact hs k h0 h1 e
    · rw [sw_ne f e h2]
      by_cases e2 : k = i
      · subst e2
        rw [sw_i]
        exact h.2 j hj0 hj hp h0
      · by_cases e3 : k = j
        · subst e3; exact absurd hp e
        · rw [sw_ne f e2 e3]
          exact h.1 k h0 h1 e
  · rw [hp, sw_i, sw_ne f (by omega) (by omega)]
    have := h.1 k h0 h1 (by omega)
    rw [h2] at this
    exact this
theorem Dn.done {f : Nat → Int} {n i : Nat} (h : Dn f n i) (hd : ∀ k, 0 < k → k < n → (k - 1) / 2 = i → f i ≤ f k) : Hp f n := fun k h0 h1 => by
  by_cases e : (k - 1) / 2 = i
  · rw [e]; exact hd k h0 h1 e
  · exact h.1 k h0 h1 e
theorem Hp.down {f : Nat → Int} {n : Nat} (h : Hp f (n + 1)) : Dn (sw f 0 n) n 0 := by
  refine ⟨fun k h0 h1 h2 => ?_, fun k h0 h1 h2 h3 => by omega⟩
  rw [sw_ne f h2 (by omega), sw_ne f (by omega) (by omega)]
  exact h k h0 (by omega)
def at_ (l : List Int) (k : Nat) : Int := l.getD k 0
def swl (l : List Int) (i j : Nat) : List Int := (l.set i (at_ l j)).set j (at_ l i)
theorem swl_length (l : List Int) (i j : Nat) : (swl l i j).length = l.length := by unfold swl; simp
theorem at_lt {l : List Int} {k : Nat} (h : k < l.length) : at_ l k = l[k] := by unfold at_; simp [h]
theorem at_swl {l : List Int} {i j : Nat} (hi : i < l.length) (hj : j < l.length) (k : Nat) : at_ (swl l i j) k = sw (at_ l) i j k := by
  by_cases hk : k < l.length
  · unfold sw swl
    rw [at_lt (by simpa using hk), List.getElem_set]
    by_cases e2 : j = k
    · subst e2
      rw [if_pos rfl]
      by_cases e : j = i
      · rw [if_pos e, e]
      · rw [if_neg e, if_pos rfl]
    · rw [if_neg e2, List.getElem_set]
      by_cases e : i = k
      · subst e; rw [if_pos rfl, if_pos rfl]
      · rw [if_neg e, if_neg (fun x => e x.symm), if_neg (fun x => e2 x.symm), at_lt hk]
  · have h1 : at_ (swl l i j) k = 0 := by unfold at_ swl; simp [hk]
    rw [h1, sw_ne _ (by omega) (by omega)]
    unfold at_; simp [hk]
theorem swl_perm {l : List Int} {i j : Nat} (hi : i < l.length) (hj : j < l.length) : (swl l i j).Perm l := by
  rw [List.perm_iff_count]
  intro a
  unfold swl
  rw [List.count_set (by simpa using hj), List.count_set hi, List.getElem_set, at_lt hi, at_lt hj]
  by_cases e : i = j
  · subst e
    rw [if_pos rfl]
    have := List.count_pos_iff (a := l[i]) (l := l)
    have hm : 0 < l.count l[i] := this.2 (List.getElem_mem hi)
    by_cases h : l[i] = a
    · subst h; simp <;> omega
    · have h' : (l[i] == a) = false := by simpa using h
      rw [h']; simp
  · rw [if_neg e]
    have c1 : 0 < l.count l[i] := List.count_pos_iff.2 (List.getElem_mem hi)
    have c2 : 0 < l.count l[j] := List.count_pos_iff.2 (List.getElem_mem hj)
    by_cases h1 : l[i] = a <;> by_cases h2 : l[j] = a
    · rw [h1, h2]; simp <;> (rw [h1] at c1; omega)
    · have h2' : (l[j] == a) = false := by simpa using h2
      rw [h1, h2']; simp <;> (rw [h1] at c1; omega)
    · have h1' : (l[i] == a) = false := by simpa using h1
      rw [h2, h1']; simp
    · have h1' : (l[i] == a) = false := by simpa using h1
      have h2' : (l[j] == a) = false := by simpa using h2
      rw [h1', h2']; simp
end Go.My.Hp
