/- Clashing goes both ways: the walk. -/
import Derived.Test.YtkkhdjchfhmliaaClashJ
import Derived.Test.YtkkhdjchfhmliaaSet10
namespace Go.Proofs.Ytkkhdjchfhmliaa
open Go.RowKit Go.My Go.Maps Go.WideMaps
set_option linter.unusedSimpArgs false
set_option linter.unusedVariables false
attribute [local go_sem ↓] Go.wp_at_zero Go.wp_at_succ

theorem add_posK (a : Addr) (j : Nat) (h : 0 < j) : a.add j = ⟨a.block, a.off + j, none⟩ := by
  unfold Addr.add
  rw [if_neg (by omega)]
def pk (seq kd : Int) (b : UInt8) : Od := ⟨0, seq, kd, ⟨#[b]⟩, ⟨#[]⟩, 0, [], 0, 0, ⟨#[]⟩⟩
theorem touch_pk (s k : Int) (b : UInt8) : touchL (pk s k b) = [[b]] := by
  unfold touchL
  refine (upOf_eq (t := [[b]]) (by unfold Up; simp) fun x => ?_).symm
  rfl
theorem clash_pq (x y : Int) : clashB (pk 1 x 120) (pk 2 y 121) = decide (x = 6 ∨ y = 6 ∨ (x = 1 ∧ y = 1)) := by
  unfold clashB
  rw [touch_pk, touch_pk]
  have h : meetL [[(120 : UInt8)]] [[121]] = false := by decide
  rw [h, Bool.or_false]
  apply decide_eq_decide.2
  unfold Od.id pk
  simp
set_option maxRecDepth 100000 in
set_option maxHeartbeats 4000000 in
theorem clashSame_walk (a b : Od) (va vb : Value) (w : World) (ha : OdI w a va) (hb : OdI w b vb) :
    Calls Try.prog 4 #[a.val va, b.val vb] w fun e w' => e = .returned (.bool true) ∧ Below w.heap.size w w' := by
  have HLV : Hid (∀ W, _) := fun W => lives10 W
  have HAS := Lib.hid (fun s a W => ask10_any s a W)
  obtain ⟨aok, agk, alg_⟩ := ha
  obtain ⟨bok, bgk, blg_⟩ := hb
  obtain ⟨vA, vc, rfl, -, -⟩ := alg_.form
  obtain ⟨uA, uc, rfl, -, -⟩ := blg_.form
  have HFE : Hid (∀ W g t, Fr No w W → Blk W g t ((a.cs (.slice vA a.legs.length vc)) ++ (b.cs (.slice uA b.legs.length uc))).toArray → Calls Try.prog 9 #[.slice (some ⟨g, 0, none⟩) 2 2, .int .i64 2] W fun e w' => ∃ A c, e = .returned (.slice A 2 c) ∧ OdsS w w' (fun k => W.heap.size ≤ k) A [a.few8, b.few8] ∧ Fr No W w') := fun W g t hW hB => by
    have hE : Each (OdR w) 10 ((a.cs (.slice vA a.legs.length vc)) ++ (b.cs (.slice uA b.legs.length uc))) [a, b] := Each.snocO (Each.snocO (Each.nilO w) (cs := a.cs (.slice vA a.legs.length vc)) rfl ⟨_, rfl, aok, agk, alg_⟩) (cs := b.cs (.slice uA b.legs.length uc)) rfl ⟨_, rfl, bok, bgk, blg_⟩
    refine Calls.mono (few10_any w W _ (some ⟨g, 0, none⟩) 2 [a, b] 2 (ods_blk hB hE) (Nat.le_refl _) (by unfold maxLen; decide) (by decide)) ?_
    rintro e w' ⟨A, c, h1, h2, -, -, h5⟩
    exact ⟨A, c, h1, h2, h5⟩
  have HSA : Hid (a.few8.legs.length ≤ 100000) := by show _ ≤ _; unfold Od.few8; rw [List.length_take]; omega
  have HSB : Hid (b.few8.legs.length ≤ 100000) := by show _ ≤ _; unfold Od.few8; rw [List.length_take]; omega
  have hfa : a.few8.val = fun v => .agg #[.int .i64 a.cl, .int .i64 a.sq, .int .i64 a.kd, .string a.acct, .string a.peer, .int .i64 a.sum, v, .int .i64 a.per, .int .i64 a.hold, .string a.note] := rfl
  have hca : ∀ v, a.few8.cs v = [.int .i64 a.cl, .int .i64 a.sq, .int .i64 a.kd, .string a.acct, .string a.peer, .int .i64 a.sum, v, .int .i64 a.per, .int .i64 a.hold, .string a.note] := fun _ => rfl
  have HCC : Hid (∀ (x y : Od) (F G : Nat → Prop) (v u : Value) (W : World), LgS W F v x.legs → LgS W G u y.legs → x.legs.length ≤ 100000 → y.legs.length ≤ 100000 → Calls Try.prog 16 #[x.val v, y.val u] W fun e w' => e = .returned (.bool (clashB x y)) ∧ Fr No W w') := fun x y F G v u W h1 h2 h3 h4 => clash_any F G x y v u W h1 h2 h3 h4
  obtain ⟨acl, asq, akd, aac, ape, asm, alg, apr, ahd, ant⟩ := a
  obtain ⟨bcl, bsq, bkd, bac, bpe, bsm, blg, bpr, bhd, bnt⟩ := b
  unfold Od.few8 at HFE HSA HSB
  unfold Od.val Od.cs at *
  simp only [List.cons_append, List.nil_append] at HFE HSA HSB alg_ blg_ ⊢
  clear hfa hca aok agk bok bgk alg_ blg_
  generalize alg.length = vn at *
  generalize blg.length = un at *
  generalize alg.take 8 = La at *
  generalize blg.take 8 = Lb at *
  have hba := (Blk.new w 40 #[.int .i64 acl, .int .i64 asq, .int .i64 akd, .string aac, .string ape, .int .i64 asm, .slice vA vn vc, .int .i64 apr, .int .i64 ahd, .string ant]).alloc (.cells #[.int .i64 bcl, .int .i64 bsq, .int .i64 bkd, .string bac, .string bpe, .int .i64 bsm, .slice uA un uc, .int .i64 bpr, .int .i64 bhd, .string bnt] 40)
  have hbb := Blk.new (w.alloc (.cells #[.int .i64 acl, .int .i64 asq, .int .i64 akd, .string aac, .string ape, .int .i64 asm, .slice vA vn vc, .int .i64 apr, .int .i64 ahd, .string ant] 40)) 40 #[.int .i64 bcl, .int .i64 bsq, .int .i64 bkd, .string bac, .string bpe, .int .i64 bsm, .slice uA un uc, .int .i64 bpr, .int .i64 bhd, .string bnt]
  rw [World.size_alloc] at hbb
  have HF0 : Hid (Fr No w ((w.alloc (.cells #[.int .i64 acl, .int .i64 asq, .int .i64 akd, .string aac, .string ape, .int .i64 asm, .slice vA vn vc, .int .i64 apr, .int .i64 ahd, .string ant] 40)).alloc (.cells #[.int .i64 bcl, .int .i64 bsq, .int .i64 bkd, .string bac, .string bpe, .int .i64 bsm, .slice uA un uc, .int .i64 bpr, .int .i64 bhd, .string bnt] 40))) := ((Fr.refl _ _).alloc _).alloc _
  have HBA := Lib.hid hba
  have HBB := Lib.hid hbb
  clear hba hbb
  go_enter Try.func4, Try.ntmps4
  go_wp2_with fail
  (with_reducible refine (HLV.out _).mono ?_)
  rintro e w1 ⟨rfl, hf1⟩
  have HF1 := Lib.hid (HF0.out.trans hf1)
  have hba := HBA.out.fr hf1 (fun h => h)
  have hbb := HBB.out.fr hf1 (fun h => h)
  have HBA1 := Lib.hid hba
  have HBB1 := Lib.hid hbb
  have x0 := hba.cell 0
  have x1 := hba.cell 1
  have x2 := hba.cell 2
  have x3 := hba.cell 3
  have x4 := hba.cell 4
  have x5 := hba.cell 5
  have x6 := hba.cell 6
  have x7 := hba.cell 7
  have x8 := hba.cell 8
  have x9 := hba.cell 9
  simp only [List.getElem?_toArray, List.getElem?_cons_zero, List.getElem?_cons_succ] at x0 x1 x2 x3 x4 x5 x6 x7 x8 x9
  have y0 := hbb.cell 0
  have y1 := hbb.cell 1
  have y2 := hbb.cell 2
  have y3 := hbb.cell 3
  have y4 := hbb.cell 4
  have y5 := hbb.cell 5
  have y6 := hbb.cell 6
  have y7 := hbb.cell 7
  have y8 := hbb.cell 8
  have y9 := hbb.cell 9
  simp only [List.getElem?_toArray, List.getElem?_cons_zero, List.getElem?_cons_succ] at y0 y1 y2 y3 y4 y5 y6 y7 y8 y9
  clear hba hbb hf1 HF0 HBA HBB HLV
  go_wp2_with fail
  (with_reducible refine (HFE.out _ w1.heap.size 40 (HF1.out.alloc _) (Blk.new w1 40 _)).mono ?_)
  rintro e w3 ⟨A, c, rfl, hods, hf3⟩
  clear x0 x1 x2 x3 x4 x5 x6 x7 x8 x9 y0 y1 y2 y3 y4 y5 y6 y7 y8 y9 HFE
  obtain ⟨ad, xv, rfl, had, _, _, hLa, q0, q1, q2, q3, q4, q5, q6, q7, q8, q9⟩ := hods.at_ 0 (by simp)
  obtain ⟨bd, yv, he, _, _, _, hLb, r0, r1, r2, r3, r4, r5, r6, r7, r8, r9⟩ := hods.at_ 1 (by simp)
  injection he with he
  subst he
  simp only [List.getElem_cons_zero, List.getElem_cons_succ] at hLa hLb q0 q1 q2 q3 q4 q5 q6 q7 q8 q9 r0 r1 r2 r3 r4 r5 r6 r7 r8 r9
  obtain ⟨xA, xc, rfl, -, -⟩ := hLa.form
  obtain ⟨yA, yc, rfl, -, -⟩ := hLb.form
  have hf3a : Fr No w1 w3 := ((Fr.refl No w1).alloc _).trans hf3
  have HF3 := Lib.hid (HF1.out.trans hf3a)
  have HBA3 := Lib.hid (HBA1.out.fr hf3a (fun h => h))
  have HBB3 := Lib.hid (HBB1.out.fr hf3a (fun h => h))
  have HAD : Hid (w.heap.size + 1 < ad.block) := by
    have h1 : (w1.alloc _).heap.size ≤ ad.block := had
    rw [World.size_alloc] at h1
    have h2 := HBB1.out.lt
    show _ < _
    omega
  have HLA3 := Lib.hid hLa
  have HLB3 := Lib.hid hLb
  have hza := fun i => HBA3.out.frozen i
  have hzb := fun i => HBB3.out.frozen i
  clear hLa hLb hods had hf3 hf3a HBA1 HBB1 HF1
  rw [Nat.zero_mul] at q0 q1 q2 q3 q4 q5 q6 q7 q8 q9
  rw [Nat.one_mul] at r0 r1 r2 r3 r4 r5 r6 r7 r8 r9
  rw [add_posK ad 10 (by omega)] at r0 r1 r2 r3 r4 r5 r6 r7 r8 r9
  rw [show ad.add 0 = ad from rfl] at q0 q1 q2 q3 q4 q5 q6 q7 q8 q9
  have x0 := HBA3.out.cell 0
  have x1 := HBA3.out.cell 1
  have x2 := HBA3.out.cell 2
  have x3 := HBA3.out.cell 3
  have x4 := HBA3.out.cell 4
  have x5 := HBA3.out.cell 5
  have x6 := HBA3.out.cell 6
  have x7 := HBA3.out.cell 7
  have x8 := HBA3.out.cell 8
  have x9 := HBA3.out.cell 9
  simp only [List.getElem?_toArray, List.getElem?_cons_zero, List.getElem?_cons_succ] at x0 x1 x2 x3 x4 x5 x6 x7 x8 x9
  have y0 := HBB3.out.cell 0
  have y1 := HBB3.out.cell 1
  have y2 := HBB3.out.cell 2
  have y3 := HBB3.out.cell 3
  have y4 := HBB3.out.cell 4
  have y5 := HBB3.out.cell 5
  have y6 := HBB3.out.cell 6
  have y7 := HBB3.out.cell 7
  have y8 := HBB3.out.cell 8
  have y9 := HBB3.out.cell 9
  simp only [List.getElem?_toArray, List.getElem?_cons_zero, List.getElem?_cons_succ] at y0 y1 y2 y3 y4 y5 y6 y7 y8 y9
  obtain ⟨hA4, hfA⟩ := set10 HBA3.out (.int .i64 acl) (.int .i64 asq) (.int .i64 akd) (.string aac) (.string ape) (.int .i64 asm) (.slice xA La.length xc) (.int .i64 apr) (.int .i64 ahd) (.string ant)
  have HA4 := Lib.hid hA4
  have HFA := Lib.hid hfA
  have HB4 := Lib.hid (HBB3.out.fr hfA (fun e => by have e : w.heap.size + 1 = w.heap.size := e; omega))
  have HRR : Hid (∀ j v, w3.cell? ⟨ad.block, j, none⟩ = some v → ((((((((((w3.setCell ⟨w.heap.size, 0, none⟩ (.int .i64 acl)).setCell ⟨w.heap.size, 1, none⟩ (.int .i64 asq)).setCell ⟨w.heap.size, 2, none⟩ (.int .i64 akd)).setCell ⟨w.heap.size, 3, none⟩ (.string aac)).setCell ⟨w.heap.size, 4, none⟩ (.string ape)).setCell ⟨w.heap.size, 5, none⟩ (.int .i64 asm)).setCell ⟨w.heap.size, 6, none⟩ (.slice xA La.length xc)).setCell ⟨w.heap.size, 7, none⟩ (.int .i64 apr)).setCell ⟨w.heap.size, 8, none⟩ (.int .i64 ahd)).setCell ⟨w.heap.size, 9, none⟩ (.string ant)).cell? ⟨ad.block, j, none⟩ = some v) := fun j v h => hfA.cell_some h (fun e => by have e : ad.block = w.heap.size := e; have := HAD.out; omega)
  clear hA4 hfA
  have u0 := HRR.out _ _ r0
  have u1 := HRR.out _ _ r1
  have u2 := HRR.out _ _ r2
  have u3 := HRR.out _ _ r3
  have u4 := HRR.out _ _ r4
  have u5 := HRR.out _ _ r5
  have u6 := HRR.out _ _ r6
  have u7 := HRR.out _ _ r7
  have u8 := HRR.out _ _ r8
  have u9 := HRR.out _ _ r9
  have z0 := HB4.out.cell 0
  have z1 := HB4.out.cell 1
  have z2 := HB4.out.cell 2
  have z3 := HB4.out.cell 3
  have z4 := HB4.out.cell 4
  have z5 := HB4.out.cell 5
  have z6 := HB4.out.cell 6
  have z7 := HB4.out.cell 7
  have z8 := HB4.out.cell 8
  have z9 := HB4.out.cell 9
  simp only [List.getElem?_toArray, List.getElem?_cons_zero, List.getElem?_cons_succ] at z0 z1 z2 z3 z4 z5 z6 z7 z8 z9
  have hzc := fun i => HB4.out.frozen i
  obtain ⟨hB5, hfB⟩ := set10 HB4.out (.int .i64 bcl) (.int .i64 bsq) (.int .i64 bkd) (.string bac) (.string bpe) (.int .i64 bsm) (.slice yA Lb.length yc) (.int .i64 bpr) (.int .i64 bhd) (.string bnt)
  have HBF : Hid (Blk (((((((((((((((((((((w3.setCell ⟨w.heap.size, 0, none⟩ (.int .i64 acl)).setCell ⟨w.heap.size, 1, none⟩ (.int .i64 asq)).setCell ⟨w.heap.size, 2, none⟩ (.int .i64 akd)).setCell ⟨w.heap.size, 3, none⟩ (.string aac)).setCell ⟨w.heap.size, 4, none⟩ (.string ape)).setCell ⟨w.heap.size, 5, none⟩ (.int .i64 asm)).setCell ⟨w.heap.size, 6, none⟩ (.slice xA La.length xc)).setCell ⟨w.heap.size, 7, none⟩ (.int .i64 apr)).setCell ⟨w.heap.size, 8, none⟩ (.int .i64 ahd)).setCell ⟨w.heap.size, 9, none⟩ (.string ant)).setCell ⟨(w.heap.size + 1), 0, none⟩ (.int .i64 bcl)).setCell ⟨(w.heap.size + 1), 1, none⟩ (.int .i64 bsq)).setCell ⟨(w.heap.size + 1), 2, none⟩ (.int .i64 bkd)).setCell ⟨(w.heap.size + 1), 3, none⟩ (.string bac)).setCell ⟨(w.heap.size + 1), 4, none⟩ (.string bpe)).setCell ⟨(w.heap.size + 1), 5, none⟩ (.int .i64 bsm)).setCell ⟨(w.heap.size + 1), 6, none⟩ (.slice yA Lb.length yc)).setCell ⟨(w.heap.size + 1), 7, none⟩ (.int .i64 bpr)).setCell ⟨(w.heap.size + 1), 8, none⟩ (.int .i64 bhd)).setCell ⟨(w.heap.size + 1), 9, none⟩ (.string bnt)).drew) (w.heap.size + 1) 40 #[.int .i64 bcl, .int .i64 bsq, .int .i64 bkd, .string bac, .string bpe, .int .i64 bsm, .slice yA Lb.length yc, .int .i64 bpr, .int .i64 bhd, .string bnt]) := hB5.drew
  have HAF : Hid (Blk (((((((((((((((((((((w3.setCell ⟨w.heap.size, 0, none⟩ (.int .i64 acl)).setCell ⟨w.heap.size, 1, none⟩ (.int .i64 asq)).setCell ⟨w.heap.size, 2, none⟩ (.int .i64 akd)).setCell ⟨w.heap.size, 3, none⟩ (.string aac)).setCell ⟨w.heap.size, 4, none⟩ (.string ape)).setCell ⟨w.heap.size, 5, none⟩ (.int .i64 asm)).setCell ⟨w.heap.size, 6, none⟩ (.slice xA La.length xc)).setCell ⟨w.heap.size, 7, none⟩ (.int .i64 apr)).setCell ⟨w.heap.size, 8, none⟩ (.int .i64 ahd)).setCell ⟨w.heap.size, 9, none⟩ (.string ant)).setCell ⟨(w.heap.size + 1), 0, none⟩ (.int .i64 bcl)).setCell ⟨(w.heap.size + 1), 1, none⟩ (.int .i64 bsq)).setCell ⟨(w.heap.size + 1), 2, none⟩ (.int .i64 bkd)).setCell ⟨(w.heap.size + 1), 3, none⟩ (.string bac)).setCell ⟨(w.heap.size + 1), 4, none⟩ (.string bpe)).setCell ⟨(w.heap.size + 1), 5, none⟩ (.int .i64 bsm)).setCell ⟨(w.heap.size + 1), 6, none⟩ (.slice yA Lb.length yc)).setCell ⟨(w.heap.size + 1), 7, none⟩ (.int .i64 bpr)).setCell ⟨(w.heap.size + 1), 8, none⟩ (.int .i64 bhd)).setCell ⟨(w.heap.size + 1), 9, none⟩ (.string bnt)).drew) w.heap.size 40 #[.int .i64 acl, .int .i64 asq, .int .i64 akd, .string aac, .string ape, .int .i64 asm, .slice xA La.length xc, .int .i64 apr, .int .i64 ahd, .string ant]) := (HA4.out.fr hfB (fun e => by have e : w.heap.size = w.heap.size + 1 := e; omega)).drew
  have HFF : Hid (Fr No w (((((((((((((((((((((w3.setCell ⟨w.heap.size, 0, none⟩ (.int .i64 acl)).setCell ⟨w.heap.size, 1, none⟩ (.int .i64 asq)).setCell ⟨w.heap.size, 2, none⟩ (.int .i64 akd)).setCell ⟨w.heap.size, 3, none⟩ (.string aac)).setCell ⟨w.heap.size, 4, none⟩ (.string ape)).setCell ⟨w.heap.size, 5, none⟩ (.int .i64 asm)).setCell ⟨w.heap.size, 6, none⟩ (.slice xA La.length xc)).setCell ⟨w.heap.size, 7, none⟩ (.int .i64 apr)).setCell ⟨w.heap.size, 8, none⟩ (.int .i64 ahd)).setCell ⟨w.heap.size, 9, none⟩ (.string ant)).setCell ⟨(w.heap.size + 1), 0, none⟩ (.int .i64 bcl)).setCell ⟨(w.heap.size + 1), 1, none⟩ (.int .i64 bsq)).setCell ⟨(w.heap.size + 1), 2, none⟩ (.int .i64 bkd)).setCell ⟨(w.heap.size + 1), 3, none⟩ (.string bac)).setCell ⟨(w.heap.size + 1), 4, none⟩ (.string bpe)).setCell ⟨(w.heap.size + 1), 5, none⟩ (.int .i64 bsm)).setCell ⟨(w.heap.size + 1), 6, none⟩ (.slice yA Lb.length yc)).setCell ⟨(w.heap.size + 1), 7, none⟩ (.int .i64 bpr)).setCell ⟨(w.heap.size + 1), 8, none⟩ (.int .i64 bhd)).setCell ⟨(w.heap.size + 1), 9, none⟩ (.string bnt)).drew)) := ((HF3.out.trans' HFA.out (fun i hi hlt => by have hi : i = w.heap.size := hi; omega)).trans' hfB (fun i hi hlt => by have hi : i = w.heap.size + 1 := hi; omega)).drew
  clear hB5 hfB
  generalize hr : clashB ⟨acl, asq, akd, aac, ape, asm, La, apr, ahd, ant⟩ ⟨bcl, bsq, bkd, bac, bpe, bsm, Lb, bpr, bhd, bnt⟩ = res
  have HAB : Hid (∀ W, Below w.heap.size w W → Calls Try.prog 16 #[.agg #[.int .i64 acl, .int .i64 asq, .int .i64 akd, .string aac, .string ape, .int .i64 asm, .slice xA La.length xc, .int .i64 apr, .int .i64 ahd, .string ant], .agg #[.int .i64 bcl, .int .i64 bsq, .int .i64 bkd, .string bac, .string bpe, .int .i64 bsm, .slice yA Lb.length yc, .int .i64 bpr, .int .i64 bhd, .string bnt]] W fun e w' => e = .returned (.bool res) ∧ Fr No W w') := fun W hW => by
    have h := HCC.out ⟨acl, asq, akd, aac, ape, asm, La, apr, ahd, ant⟩ ⟨bcl, bsq, bkd, bac, bpe, bsm, Lb, bpr, bhd, bnt⟩ _ _ (.slice xA La.length xc) (.slice yA Lb.length yc) W (HLA3.out.below hW) (HLB3.out.below hW) HSA.out HSB.out
    rw [hr] at h
    exact h
  have HBAc : Hid (∀ W, Below w.heap.size w W → Calls Try.prog 16 #[.agg #[.int .i64 bcl, .int .i64 bsq, .int .i64 bkd, .string bac, .string bpe, .int .i64 bsm, .slice yA Lb.length yc, .int .i64 bpr, .int .i64 bhd, .string bnt], .agg #[.int .i64 acl, .int .i64 asq, .int .i64 akd, .string aac, .string ape, .int .i64 asm, .slice xA La.length xc, .int .i64 apr, .int .i64 ahd, .string ant]] W fun e w' => e = .returned (.bool res) ∧ Fr No W w') := fun W hW => by
    have h := HCC.out ⟨bcl, bsq, bkd, bac, bpe, bsm, Lb, bpr, bhd, bnt⟩ ⟨acl, asq, akd, aac, ape, asm, La, apr, ahd, ant⟩ _ _ (.slice yA Lb.length yc) (.slice xA La.length xc) W (HLB3.out.below hW) (HLA3.out.below hW) HSB.out HSA.out
    rw [clashB_comm, hr] at h
    exact h
  have HAA : Hid (∀ W, Below w.heap.size w W → Calls Try.prog 16 #[.agg #[.int .i64 acl, .int .i64 asq, .int .i64 akd, .string aac, .string ape, .int .i64 asm, .slice xA La.length xc, .int .i64 apr, .int .i64 ahd, .string ant], .agg #[.int .i64 acl, .int .i64 asq, .int .i64 akd, .string aac, .string ape, .int .i64 asm, .slice xA La.length xc, .int .i64 apr, .int .i64 ahd, .string ant]] W fun e w' => e = .returned (.bool true) ∧ Fr No W w') := fun W hW => by
    have h := HCC.out ⟨acl, asq, akd, aac, ape, asm, La, apr, ahd, ant⟩ ⟨acl, asq, akd, aac, ape, asm, La, apr, ahd, ant⟩ _ _ (.slice xA La.length xc) (.slice xA La.length xc) W (HLA3.out.below hW) (HLA3.out.below hW) HSA.out HSA.out
    rw [clashB_self] at h
    exact h
  have HCB : Hid (∀ W, Below w.heap.size w W → Calls Try.prog 16 #[.agg #[.int .i64 acl, .int .i64 asq, .int .i64 6, .string aac, .string ape, .int .i64 asm, .slice xA La.length xc, .int .i64 apr, .int .i64 ahd, .string ant], .agg #[.int .i64 bcl, .int .i64 bsq, .int .i64 bkd, .string bac, .string bpe, .int .i64 bsm, .slice yA Lb.length yc, .int .i64 bpr, .int .i64 bhd, .string bnt]] W fun e w' => e = .returned (.bool true) ∧ Fr No W w') := fun W hW => by
    have h := HCC.out ⟨acl, asq, 6, aac, ape, asm, La, apr, ahd, ant⟩ ⟨bcl, bsq, bkd, bac, bpe, bsm, Lb, bpr, bhd, bnt⟩ _ _ (.slice xA La.length xc) (.slice yA Lb.length yc) W (HLA3.out.below hW) (HLB3.out.below hW) HSA.out HSB.out
    rw [clashB_close _ _ rfl] at h
    exact h
  have HBC : Hid (∀ W, Below w.heap.size w W → Calls Try.prog 16 #[.agg #[.int .i64 bcl, .int .i64 bsq, .int .i64 bkd, .string bac, .string bpe, .int .i64 bsm, .slice yA Lb.length yc, .int .i64 bpr, .int .i64 bhd, .string bnt], .agg #[.int .i64 acl, .int .i64 asq, .int .i64 6, .string aac, .string ape, .int .i64 asm, .slice xA La.length xc, .int .i64 apr, .int .i64 ahd, .string ant]] W fun e w' => e = .returned (.bool true) ∧ Fr No W w') := fun W hW => by
    have h := HCC.out ⟨bcl, bsq, bkd, bac, bpe, bsm, Lb, bpr, bhd, bnt⟩ ⟨acl, asq, 6, aac, ape, asm, La, apr, ahd, ant⟩ _ _ (.slice yA Lb.length yc) (.slice xA La.length xc) W (HLB3.out.below hW) (HLA3.out.below hW) HSB.out HSA.out
    rw [clashB_comm, clashB_close _ _ rfl] at h
    exact h
  have HPQ : Hid (∀ W, Calls Try.prog 16 #[.agg #[.int .i64 0, .int .i64 1, .int .i64 akd, .string ⟨#[120]⟩, .string ⟨#[]⟩, .int .i64 0, .slice none 0 0, .int .i64 0, .int .i64 0, .string ⟨#[]⟩], .agg #[.int .i64 0, .int .i64 2, .int .i64 bkd, .string ⟨#[121]⟩, .string ⟨#[]⟩, .int .i64 0, .slice none 0 0, .int .i64 0, .int .i64 0, .string ⟨#[]⟩]] W fun e w' => e = .returned (.bool (decide (akd = 6 ∨ bkd = 6 ∨ (akd = 1 ∧ bkd = 1)))) ∧ Fr No W w') := fun W => by
    have h := HCC.out (pk 1 akd 120) (pk 2 bkd 121) No No (.slice none 0 0) (.slice none 0 0) W (LgS_nil _ _) (LgS_nil _ _) (by show 0 ≤ _; omega) (by show 0 ≤ _; omega)
    rw [clash_pq] at h
    exact h
  clear hr HCC HLA3 HLB3 HSA HSB
  go_upto_region 4 with (fail)
  go_region_law (fail)
  all_goals
    clear x0 x1 x2 x3 x4 x5 x6 x7 x8 x9 y0 y1 y2 y3 y4 y5 y6 y7 y8 y9 z0 z1 z2 z3 z4 z5 z6 z7 z8 z9 q0 q1 q2 q3 q4 q5 q6 q7 q8 q9 r0 r1 r2 r3 r4 r5 r6 r7 r8 r9 u0 u1 u2 u3 u4 u5 u6 u7 u8 u9 hza hzb hzc
    clear HRR HFA HA4 HB4 HBA3 HBB3 HF3 HAD
    generalize ((((((((((((((((((((w3.setCell ⟨w.heap.size, 0, none⟩ (.int .i64 acl)).setCell ⟨w.heap.size, 1, none⟩ (.int .i64 asq)).setCell ⟨w.heap.size, 2, none⟩ (.int .i64 akd)).setCell ⟨w.heap.size, 3, none⟩ (.string aac)).setCell ⟨w.heap.size, 4, none⟩ (.string ape)).setCell ⟨w.heap.size, 5, none⟩ (.int .i64 asm)).setCell ⟨w.heap.size, 6, none⟩ (.slice xA La.length xc)).setCell ⟨w.heap.size, 7, none⟩ (.int .i64 apr)).setCell ⟨w.heap.size, 8, none⟩ (.int .i64 ahd)).setCell ⟨w.heap.size, 9, none⟩ (.string ant)).setCell ⟨(w.heap.size + 1), 0, none⟩ (.int .i64 bcl)).setCell ⟨(w.heap.size + 1), 1, none⟩ (.int .i64 bsq)).setCell ⟨(w.heap.size + 1), 2, none⟩ (.int .i64 bkd)).setCell ⟨(w.heap.size + 1), 3, none⟩ (.string bac)).setCell ⟨(w.heap.size + 1), 4, none⟩ (.string bpe)).setCell ⟨(w.heap.size + 1), 5, none⟩ (.int .i64 bsm)).setCell ⟨(w.heap.size + 1), 6, none⟩ (.slice yA Lb.length yc)).setCell ⟨(w.heap.size + 1), 7, none⟩ (.int .i64 bpr)).setCell ⟨(w.heap.size + 1), 8, none⟩ (.int .i64 bhd)).setCell ⟨(w.heap.size + 1), 9, none⟩ (.string bnt)).drew = w4 at *
    have x0 := HAF.out.cell 0
    have x1 := HAF.out.cell 1
    have x2 := HAF.out.cell 2
    have x3 := HAF.out.cell 3
    have x4 := HAF.out.cell 4
    have x5 := HAF.out.cell 5
    have x6 := HAF.out.cell 6
    have x7 := HAF.out.cell 7
    have x8 := HAF.out.cell 8
    have x9 := HAF.out.cell 9
    simp only [List.getElem?_toArray, List.getElem?_cons_zero, List.getElem?_cons_succ] at x0 x1 x2 x3 x4 x5 x6 x7 x8 x9
    go_upto_region 7 with (fail)
    have HBW : Hid (Fr No w (w4.alloc (.cells #[.int .i64 acl, .int .i64 asq, .int .i64 6, .string aac, .string ape, .int .i64 asm, .slice xA La.length xc, .int .i64 apr, .int .i64 ahd, .string ant] 40))) := HFF.out.alloc _
    have HA5 := Lib.hid (HAF.out.alloc (.cells #[.int .i64 acl, .int .i64 asq, .int .i64 6, .string aac, .string ape, .int .i64 asm, .slice xA La.length xc, .int .i64 apr, .int .i64 ahd, .string ant] 40))
    have HB5 := Lib.hid (HBF.out.alloc (.cells #[.int .i64 acl, .int .i64 asq, .int .i64 6, .string aac, .string ape, .int .i64 asm, .slice xA La.length xc, .int .i64 apr, .int .i64 ahd, .string ant] 40))
    have HC5 := Lib.hid (Blk.new w4 40 #[.int .i64 acl, .int .i64 asq, .int .i64 6, .string aac, .string ape, .int .i64 asm, .slice xA La.length xc, .int .i64 apr, .int .i64 ahd, .string ant])
    clear x0 x1 x2 x3 x4 x5 x6 x7 x8 x9 HFF HAF HBF
    generalize w4.heap.size = gc at *
    generalize w4.alloc (.cells #[.int .i64 acl, .int .i64 asq, .int .i64 6, .string aac, .string ape, .int .i64 asm, .slice xA La.length xc, .int .i64 apr, .int .i64 ahd, .string ant] 40) = w5 at *
    have x0 := fun x : WIn (Fr No w5) => (HA5.out.fr x.h (fun h => h)).cell 0
    have x1 := fun x : WIn (Fr No w5) => (HA5.out.fr x.h (fun h => h)).cell 1
    have x2 := fun x : WIn (Fr No w5) => (HA5.out.fr x.h (fun h => h)).cell 2
    have x3 := fun x : WIn (Fr No w5) => (HA5.out.fr x.h (fun h => h)).cell 3
    have x4 := fun x : WIn (Fr No w5) => (HA5.out.fr x.h (fun h => h)).cell 4
    have x5 := fun x : WIn (Fr No w5) => (HA5.out.fr x.h (fun h => h)).cell 5
    have x6 := fun x : WIn (Fr No w5) => (HA5.out.fr x.h (fun h => h)).cell 6
    have x7 := fun x : WIn (Fr No w5) => (HA5.out.fr x.h (fun h => h)).cell 7
    have x8 := fun x : WIn (Fr No w5) => (HA5.out.fr x.h (fun h => h)).cell 8
    have x9 := fun x : WIn (Fr No w5) => (HA5.out.fr x.h (fun h => h)).cell 9
    simp only [List.getElem?_toArray, List.getElem?_cons_zero, List.getElem?_cons_succ] at x0 x1 x2 x3 x4 x5 x6 x7 x8 x9
    have y0 := fun x : WIn (Fr No w5) => (HB5.out.fr x.h (fun h => h)).cell 0
    have y1 := fun x : WIn (Fr No w5) => (HB5.out.fr x.h (fun h => h)).cell 1
    have y2 := fun x : WIn (Fr No w5) => (HB5.out.fr x.h (fun h => h)).cell 2
    have y3 := fun x : WIn (Fr No w5) => (HB5.out.fr x.h (fun h => h)).cell 3
    have y4 := fun x : WIn (Fr No w5) => (HB5.out.fr x.h (fun h => h)).cell 4
    have y5 := fun x : WIn (Fr No w5) => (HB5.out.fr x.h (fun h => h)).cell 5
    have y6 := fun x : WIn (Fr No w5) => (HB5.out.fr x.h (fun h => h)).cell 6
    have y7 := fun x : WIn (Fr No w5) => (HB5.out.fr x.h (fun h => h)).cell 7
    have y8 := fun x : WIn (Fr No w5) => (HB5.out.fr x.h (fun h => h)).cell 8
    have y9 := fun x : WIn (Fr No w5) => (HB5.out.fr x.h (fun h => h)).cell 9
    simp only [List.getElem?_toArray, List.getElem?_cons_zero, List.getElem?_cons_succ] at y0 y1 y2 y3 y4 y5 y6 y7 y8 y9
    have z0 := fun x : WIn (Fr No w5) => (HC5.out.fr x.h (fun h => h)).cell 0
    have z1 := fun x : WIn (Fr No w5) => (HC5.out.fr x.h (fun h => h)).cell 1
    have z2 := fun x : WIn (Fr No w5) => (HC5.out.fr x.h (fun h => h)).cell 2
    have z3 := fun x : WIn (Fr No w5) => (HC5.out.fr x.h (fun h => h)).cell 3
    have z4 := fun x : WIn (Fr No w5) => (HC5.out.fr x.h (fun h => h)).cell 4
    have z5 := fun x : WIn (Fr No w5) => (HC5.out.fr x.h (fun h => h)).cell 5
    have z6 := fun x : WIn (Fr No w5) => (HC5.out.fr x.h (fun h => h)).cell 6
    have z7 := fun x : WIn (Fr No w5) => (HC5.out.fr x.h (fun h => h)).cell 7
    have z8 := fun x : WIn (Fr No w5) => (HC5.out.fr x.h (fun h => h)).cell 8
    have z9 := fun x : WIn (Fr No w5) => (HC5.out.fr x.h (fun h => h)).cell 9
    simp only [List.getElem?_toArray, List.getElem?_cons_zero, List.getElem?_cons_succ] at z0 z1 z2 z3 z4 z5 z6 z7 z8 z9
    have hne : Nonempty (WIn (Fr No w5)) := ⟨⟨_, Fr.refl _ _⟩⟩
    refine wp_region_in (D := Fr No w5) (by kernel_rfl) (by kernel_rfl) (Fr.refl _ _).drew ?_
    repeat (go_big_quiet_step ((first
      | (go_at_call 16; refine Calls.in_of (v := .bool res) _ fun W hW => ?_; (with_reducible refine (HAB.out W (HBW.out.trans hW).belowNo).mono ?_); exact fun _ _ h => ⟨h.1, Fr.trans hW h.2⟩)
      | (go_at_call 16; refine Calls.in_of (v := .bool res) _ fun W hW => ?_; (with_reducible refine (HBAc.out W (HBW.out.trans hW).belowNo).mono ?_); exact fun _ _ h => ⟨h.1, Fr.trans hW h.2⟩)
      | (go_at_call 16; refine Calls.in_of (v := .bool true) _ fun W hW => ?_; (with_reducible refine (HAA.out W (HBW.out.trans hW).belowNo).mono ?_); exact fun _ _ h => ⟨h.1, Fr.trans hW h.2⟩)
      | (go_at_call 16; refine Calls.in_of (v := .bool true) _ fun W hW => ?_; (with_reducible refine (HCB.out W (HBW.out.trans hW).belowNo).mono ?_); exact fun _ _ h => ⟨h.1, Fr.trans hW h.2⟩)
      | (go_at_call 16; refine Calls.in_of (v := .bool true) _ fun W hW => ?_; (with_reducible refine (HBC.out W (HBW.out.trans hW).belowNo).mono ?_); exact fun _ _ h => ⟨h.1, Fr.trans hW h.2⟩))))
    refine wpQuiet_nil ?_
    rintro _ ⟨⟨w6, hq6⟩, rfl⟩
    have HA6 := Lib.hid (HA5.out.fr hq6 (fun h => h))
    have HB6 := Lib.hid (HB5.out.fr hq6 (fun h => h))
    have HF6 := Lib.hid (HBW.out.trans hq6)
    clear x0 x1 x2 x3 x4 x5 x6 x7 x8 x9 y0 y1 y2 y3 y4 y5 y6 y7 y8 y9 z0 z1 z2 z3 z4 z5 z6 z7 z8 z9 HA5 HB5 HC5 HBW hq6 hne HAB HBAc HAA HCB HBC
    go_wp2_with fail
    (with_reducible refine (HAS.out _ _ _).mono ?_)
    rintro e w7 ⟨rfl, hf7⟩
    go_wp2_with fail
    (with_reducible refine (HAS.out _ _ _).mono ?_)
    rintro e w8 ⟨rfl, hf8⟩
    have HA8 := Lib.hid ((HA6.out.fr hf7 (fun h => h)).fr hf8 (fun h => h))
    have HB8 := Lib.hid ((HB6.out.fr hf7 (fun h => h)).fr hf8 (fun h => h))
    have HF8 := Lib.hid ((HF6.out.trans hf7).trans hf8)
    clear hf7 hf8 HA6 HB6 HF6 HAS
    go_upto_region 10 with (fail)
    have hfn : Fr No w8 ((w8.alloc (.cells #[.int .i64 0, .int .i64 1, .int .i64 7, .string ⟨#[120]⟩, .string ⟨#[]⟩, .int .i64 0, .slice none 0 0, .int .i64 0, .int .i64 0, .string ⟨#[]⟩] 40)).alloc (.cells #[.int .i64 0, .int .i64 2, .int .i64 7, .string ⟨#[121]⟩, .string ⟨#[]⟩, .int .i64 0, .slice none 0 0, .int .i64 0, .int .i64 0, .string ⟨#[]⟩] 40)) := ((Fr.refl _ _).alloc _).alloc _
    have HA9 := Lib.hid (HA8.out.fr hfn (fun h => h))
    have HB9 := Lib.hid (HB8.out.fr hfn (fun h => h))
    have HP9 := Lib.hid ((Blk.new w8 40 #[.int .i64 0, .int .i64 1, .int .i64 7, .string ⟨#[120]⟩, .string ⟨#[]⟩, .int .i64 0, .slice none 0 0, .int .i64 0, .int .i64 0, .string ⟨#[]⟩]).alloc (.cells #[.int .i64 0, .int .i64 2, .int .i64 7, .string ⟨#[121]⟩, .string ⟨#[]⟩, .int .i64 0, .slice none 0 0, .int .i64 0, .int .i64 0, .string ⟨#[]⟩] 40))
    have hq9 := Blk.new (w8.alloc (.cells #[.int .i64 0, .int .i64 1, .int .i64 7, .string ⟨#[120]⟩, .string ⟨#[]⟩, .int .i64 0, .slice none 0 0, .int .i64 0, .int .i64 0, .string ⟨#[]⟩] 40)) 40 #[.int .i64 0, .int .i64 2, .int .i64 7, .string ⟨#[121]⟩, .string ⟨#[]⟩, .int .i64 0, .slice none 0 0, .int .i64 0, .int .i64 0, .string ⟨#[]⟩]
    rw [World.size_alloc] at hq9
    have HQ9 := Lib.hid hq9
    have HF9 := Lib.hid (HF8.out.trans hfn)
    have HGA : Hid (w.heap.size + 1 < w8.heap.size) := HB8.out.lt
    clear hfn hq9 HA8 HB8
    generalize ((w8.alloc (.cells #[.int .i64 0, .int .i64 1, .int .i64 7, .string ⟨#[120]⟩, .string ⟨#[]⟩, .int .i64 0, .slice none 0 0, .int .i64 0, .int .i64 0, .string ⟨#[]⟩] 40)).alloc (.cells #[.int .i64 0, .int .i64 2, .int .i64 7, .string ⟨#[121]⟩, .string ⟨#[]⟩, .int .i64 0, .slice none 0 0, .int .i64 0, .int .i64 0, .string ⟨#[]⟩] 40)) = w9 at *
    have HGW : Hid (w.heap.size ≤ w8.heap.size) := HF8.out.size
    clear HF8
    generalize w8.heap.size = gp at *
    have a2 := HA9.out.cell 2
    have p2 := HP9.out.cell 2
    have fp := fun i => HP9.out.frozen i
    simp only [List.getElem?_toArray, List.getElem?_cons_zero, List.getElem?_cons_succ] at a2 p2
    go_upto_region 11 with (fail)
    have hs := HP9.out.set_ 2 (.int .i64 akd)
    have hf := fr_set w9 gp 2 (.int .i64 akd)
    simp only [List.setIfInBounds_toArray, List.set_cons_zero, List.set_cons_succ] at hs
    have HP10 := Lib.hid hs
    have HF10 := Lib.hid (HF9.out.trans' hf (fun i hi hlt => by have hi : i = gp := hi; have := HGW.out; omega))
    have HQ10 := Lib.hid (HQ9.out.fr hf (fun e => by have e : gp + 1 = gp := e; omega))
    have HA10 := Lib.hid (HA9.out.fr hf (fun e => by have e : w.heap.size = gp := e; have := HGA.out; omega))
    have HB10 := Lib.hid (HB9.out.fr hf (fun e => by have e : w.heap.size + 1 = gp := e; have := HGA.out; omega))
    clear hs hf a2 p2 fp HP9 HF9 HQ9 HA9 HB9
    generalize w9.setCell ⟨gp, 2, none⟩ (.int .i64 akd) = w10 at *
    have b2 := HB10.out.cell 2
    have q2 := HQ10.out.cell 2
    have fq := fun i => HQ10.out.frozen i
    simp only [List.getElem?_toArray, List.getElem?_cons_zero, List.getElem?_cons_succ] at b2 q2
    go_upto_region 12 with (fail)
    have hs := HQ10.out.set_ 2 (.int .i64 bkd)
    have hf := fr_set w10 (gp + 1) 2 (.int .i64 bkd)
    simp only [List.setIfInBounds_toArray, List.set_cons_zero, List.set_cons_succ] at hs
    have HQ11 := Lib.hid hs
    have HF11 := Lib.hid (HF10.out.trans' hf (fun i hi hlt => by have hi : i = gp + 1 := hi; have := HGW.out; omega))
    have HP11 := Lib.hid (HP10.out.fr hf (fun e => by have e : gp = gp + 1 := e; omega))
    have HA11 := Lib.hid (HA10.out.fr hf (fun e => by have e : w.heap.size = gp + 1 := e; have := HGA.out; omega))
    have HB11 := Lib.hid (HB10.out.fr hf (fun e => by have e : w.heap.size + 1 = gp + 1 := e; have := HGA.out; omega))
    clear hs hf b2 q2 fq HP10 HF10 HQ10 HA10 HB10
    generalize w10.setCell ⟨gp + 1, 2, none⟩ (.int .i64 bkd) = w11 at *
    have a2 := HA11.out.cell 2
    have b2 := HB11.out.cell 2
    simp only [List.getElem?_toArray, List.getElem?_cons_zero, List.getElem?_cons_succ] at a2 b2
    have p0 := HP11.out.cell 0
    have p1 := HP11.out.cell 1
    have p2 := HP11.out.cell 2
    have p3 := HP11.out.cell 3
    have p4 := HP11.out.cell 4
    have p5 := HP11.out.cell 5
    have p6 := HP11.out.cell 6
    have p7 := HP11.out.cell 7
    have p8 := HP11.out.cell 8
    have p9 := HP11.out.cell 9
    simp only [List.getElem?_toArray, List.getElem?_cons_zero, List.getElem?_cons_succ] at p0 p1 p2 p3 p4 p5 p6 p7 p8 p9
    have q0 := HQ11.out.cell 0
    have q1 := HQ11.out.cell 1
    have q2 := HQ11.out.cell 2
    have q3 := HQ11.out.cell 3
    have q4 := HQ11.out.cell 4
    have q5 := HQ11.out.cell 5
    have q6 := HQ11.out.cell 6
    have q7 := HQ11.out.cell 7
    have q8 := HQ11.out.cell 8
    have q9 := HQ11.out.cell 9
    simp only [List.getElem?_toArray, List.getElem?_cons_zero, List.getElem?_cons_succ] at q0 q1 q2 q3 q4 q5 q6 q7 q8 q9
    by_cases k6 : akd = 6
    · have hv : decide (akd = 6 ∨ bkd = 6 ∨ (akd = 1 ∧ bkd = 1)) = true := decide_eq_true (.inl k6)
      rw [hv] at HPQ
      subst k6
      clear hv
      go_wp2_with fail
      (with_reducible refine (HPQ.out _).mono ?_)
      rintro e w12 ⟨rfl, hf12⟩
      go_wp2
      go_ret
      exact ⟨rfl, (HF11.out.trans hf12).belowNo⟩
    have hk6 : (akd == 6) = false := beq_eq_false_iff_ne.2 k6
    by_cases l6 : bkd = 6
    · have hv : decide (akd = 6 ∨ bkd = 6 ∨ (akd = 1 ∧ bkd = 1)) = true := decide_eq_true (.inr (.inl l6))
      rw [hv] at HPQ
      subst l6
      clear hv k6
      go_wp2_with fail
      (with_reducible refine (HPQ.out _).mono ?_)
      rintro e w12 ⟨rfl, hf12⟩
      go_wp2
      go_ret
      exact ⟨rfl, (HF11.out.trans hf12).belowNo⟩
    have hl6 : (bkd == 6) = false := beq_eq_false_iff_ne.2 l6
    by_cases k1 : akd = 1
    · by_cases l1 : bkd = 1
      · have hv : decide (akd = 6 ∨ bkd = 6 ∨ (akd = 1 ∧ bkd = 1)) = true := decide_eq_true (.inr (.inr ⟨k1, l1⟩))
        rw [hv] at HPQ
        subst k1 l1
        clear hv k6 l6 hk6 hl6
        go_wp2_with fail
        (with_reducible refine (HPQ.out _).mono ?_)
        rintro e w12 ⟨rfl, hf12⟩
        go_wp2
        go_ret
        exact ⟨rfl, (HF11.out.trans hf12).belowNo⟩
      · have hv : decide (akd = 6 ∨ bkd = 6 ∨ (akd = 1 ∧ bkd = 1)) = false := decide_eq_false (by rintro (h | h | h); exact k6 h; exact l6 h; exact l1 h.2)
        rw [hv] at HPQ
        have hl1 : (bkd == 1) = false := beq_eq_false_iff_ne.2 l1
        subst k1
        clear hv k6 l6 l1 hk6
        go_wp2_with fail
        (with_reducible refine (HPQ.out _).mono ?_)
        rintro e w12 ⟨rfl, hf12⟩
        go_wp2
        go_ret
        exact ⟨rfl, (HF11.out.trans hf12).belowNo⟩
    · have hv : decide (akd = 6 ∨ bkd = 6 ∨ (akd = 1 ∧ bkd = 1)) = false := decide_eq_false (by rintro (h | h | h); exact k6 h; exact l6 h; exact k1 h.1)
      rw [hv] at HPQ
      have hk1 : (akd == 1) = false := beq_eq_false_iff_ne.2 k1
      clear hv k6 l6 k1
      go_wp2_with fail
      (with_reducible refine (HPQ.out _).mono ?_)
      rintro e w12 ⟨rfl, hf12⟩
      go_wp2
      go_ret
      exact ⟨rfl, (HF11.out.trans hf12).belowNo⟩
end Go.Proofs.Ytkkhdjchfhmliaa
