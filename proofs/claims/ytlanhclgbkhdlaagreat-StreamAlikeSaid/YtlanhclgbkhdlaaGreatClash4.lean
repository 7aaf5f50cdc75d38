/- clash.Clash. -/
import Derived.Test.YtlanhclgbkhdlaaGreatClash3
namespace Go.Proofs.YtlanhclgbkhdlaaGreat
open Go.RowKit Go.My Go.Maps
set_option linter.unusedSimpArgs false
set_option linter.unusedVariables false
attribute [local go_sem ↓] Go.wp_at_zero Go.wp_at_succ

theorem touch_len (o : Od) : (touchL o).length ≤ 2 + o.legs.length := by
  unfold touchL
  refine Nat.le_trans (upOf_length _) ?_
  unfold namesO
  refine Nat.le_trans (List.length_filter_le _ _) ?_
  rw [allN_length o _ (Nat.le_refl _)]
  exact Nat.le_refl _
def MarkRet (w : World) (f : Value → Value) (T : List (List UInt8)) (e : Ending) (w' : World) : Prop := ∃ A c, e = .returned (f (.slice A T.length c)) ∧ Own w' 9 1 (.slice A T.length c) T.length (ts T) ∧ T.length ≤ c ∧ c ≤ maxLen ∧ Fr No w w' ∧ ∀ k, (Value.slice A T.length c).ownBlock = some k → w.heap.size ≤ k
set_option maxRecDepth 100000 in
set_option maxHeartbeats 2000000 in
theorem clash_any (F G : Nat → Prop) (a b : Od) (va vb : Value) (w : World) (ha : LgS w F va a.legs) (hb : LgS w G vb b.legs) (h1 : a.legs.length ≤ 100000) (h2 : b.legs.length ≤ 100000) :
    Calls Tryz.prog 26 #[a.val va, b.val vb] w fun e w' => e = .returned (.bool (clashB a b)) ∧ Fr No w w' := by
  have HTA : Hid ((touchL a).length ≤ 1000000) := by show _ ≤ _; have := touch_len a; omega
  have HTB : Hid ((touchL b).length ≤ 1000000) := by show _ ≤ _; have := touch_len b; omega
  have HMA : Hid (∀ W, Fr No w W → Calls Tryz.prog 42 #[a.val va] W (MarkRet W (mkd a va) (touchL a))) := fun W hW => mark_any F a va W (ha.no hW) h1
  have HMB : Hid (∀ W, Fr No w W → Calls Tryz.prog 42 #[b.val vb] W (MarkRet W (mkd b vb) (touchL b))) := fun W hW => mark_any G b vb W (hb.no hW) h2
  have HCL : Hid (∀ W A B c d, Own W 9 1 (.slice A (touchL a).length c) (touchL a).length (ts (touchL a)) → Own W 9 1 (.slice B (touchL b).length d) (touchL b).length (ts (touchL b)) → Calls Tryz.prog 43 #[mkd a va (.slice A (touchL a).length c), mkd b vb (.slice B (touchL b).length d)] W fun e w' => e = .returned (.bool (clashB a b)) ∧ Fr No W w') := fun W A B c d q1 q2 => clashes_any _ _ a b va vb A B c d (touchL a) (touchL b) W q1.rd q2.rd HTA.out HTB.out
  obtain ⟨vA, ca, rfl, -, -⟩ := ha.form
  obtain ⟨vB, cb, rfl, -, -⟩ := hb.form
  generalize clashB a b = res at *
  generalize mkd a (.slice vA a.legs.length ca) = fa at *
  generalize mkd b (.slice vB b.legs.length cb) = fb at *
  generalize touchL a = TA at *
  generalize touchL b = TB at *
  clear ha hb h1 h2
  generalize a.legs.length = na at *
  generalize b.legs.length = nb at *
  obtain ⟨acl, asq, akd, aac, ape, asm, alg, apr, ahd, ant⟩ := a
  obtain ⟨bcl, bsq, bkd, bac, bpe, bsm, blg, bpr, bhd, bnt⟩ := b
  unfold Od.val Od.cs at *
  simp only at HMA HMB ⊢
  have hba := (Blk.new w 31 #[.int .i64 acl, .int .i64 asq, .int .i64 akd, .string aac, .string ape, .int .i64 asm, .slice vA na ca, .int .i64 apr, .int .i64 ahd, .string ant]).alloc (.cells #[.int .i64 bcl, .int .i64 bsq, .int .i64 bkd, .string bac, .string bpe, .int .i64 bsm, .slice vB nb cb, .int .i64 bpr, .int .i64 bhd, .string bnt] 31)
  have hbb := Blk.new (w.alloc (.cells #[.int .i64 acl, .int .i64 asq, .int .i64 akd, .string aac, .string ape, .int .i64 asm, .slice vA na ca, .int .i64 apr, .int .i64 ahd, .string ant] 31)) 31 #[.int .i64 bcl, .int .i64 bsq, .int .i64 bkd, .string bac, .string bpe, .int .i64 bsm, .slice vB nb cb, .int .i64 bpr, .int .i64 bhd, .string bnt]
  rw [World.size_alloc] at hbb
  have HF1 : Hid (Fr No w ((w.alloc (.cells #[.int .i64 acl, .int .i64 asq, .int .i64 akd, .string aac, .string ape, .int .i64 asm, .slice vA na ca, .int .i64 apr, .int .i64 ahd, .string ant] 31)).alloc (.cells #[.int .i64 bcl, .int .i64 bsq, .int .i64 bkd, .string bac, .string bpe, .int .i64 bsm, .slice vB nb cb, .int .i64 bpr, .int .i64 bhd, .string bnt] 31))) := ((Fr.refl _ _).alloc _).alloc _
  go_enter Tryz.func26, Tryz.ntmps26
  go_upto_region 1 with (fail)
  generalize (w.alloc (.cells #[.int .i64 acl, .int .i64 asq, .int .i64 akd, .string aac, .string ape, .int .i64 asm, .slice vA na ca, .int .i64 apr, .int .i64 ahd, .string ant] 31)).alloc (.cells #[.int .i64 bcl, .int .i64 bsq, .int .i64 bkd, .string bac, .string bpe, .int .i64 bsm, .slice vB nb cb, .int .i64 bpr, .int .i64 bhd, .string bnt] 31) = w2 at *
  have HX : Hid (∀ W, Fr No w2 W → Fr No w2 W ∧ W.cell? ⟨w.heap.size, 0, none⟩ = some (.int .i64 acl) ∧ W.cell? ⟨w.heap.size, 1, none⟩ = some (.int .i64 asq) ∧ W.cell? ⟨w.heap.size, 2, none⟩ = some (.int .i64 akd) ∧ W.cell? ⟨w.heap.size, 3, none⟩ = some (.string aac) ∧ W.cell? ⟨w.heap.size, 4, none⟩ = some (.string ape) ∧ W.cell? ⟨w.heap.size, 5, none⟩ = some (.int .i64 asm) ∧ W.cell? ⟨w.heap.size, 6, none⟩ = some (.slice vA na ca) ∧ W.cell? ⟨w.heap.size, 7, none⟩ = some (.int .i64 apr) ∧ W.cell? ⟨w.heap.size, 8, none⟩ = some (.int .i64 ahd) ∧ W.cell? ⟨w.heap.size, 9, none⟩ = some (.string ant) ∧ W.cell? ⟨w.heap.size + 1, 0, none⟩ = some (.int .i64 bcl) ∧ W.cell? ⟨w.heap.size + 1, 1, none⟩ = some (.int .i64 bsq) ∧ W.cell? ⟨w.heap.size + 1, 2, none⟩ = some (.int .i64 bkd) ∧ W.cell? ⟨w.heap.size + 1, 3, none⟩ = some (.string bac) ∧ W.cell? ⟨w.heap.size + 1, 4, none⟩ = some (.string bpe) ∧ W.cell? ⟨w.heap.size + 1, 5, none⟩ = some (.int .i64 bsm) ∧ W.cell? ⟨w.heap.size + 1, 6, none⟩ = some (.slice vB nb cb) ∧ W.cell? ⟨w.heap.size + 1, 7, none⟩ = some (.int .i64 bpr) ∧ W.cell? ⟨w.heap.size + 1, 8, none⟩ = some (.int .i64 bhd) ∧ W.cell? ⟨w.heap.size + 1, 9, none⟩ = some (.string bnt)) := fun W hW => by
    have h1 := hba.fr hW (fun h => h)
    have h2 := hbb.fr hW (fun h => h)
    exact ⟨hW, h1.cell 0, h1.cell 1, h1.cell 2, h1.cell 3, h1.cell 4, h1.cell 5, h1.cell 6, h1.cell 7, h1.cell 8, h1.cell 9, h2.cell 0, h2.cell 1, h2.cell 2, h2.cell 3, h2.cell 4, h2.cell 5, h2.cell 6, h2.cell 7, h2.cell 8, h2.cell 9⟩
  have hk0 : Fr No w2 w2.drew := (Fr.refl _ w2).drew
  clear hba hbb
  go_region_held3 (fun W => Fr No w2 W ∧ W.cell? ⟨w.heap.size, 0, none⟩ = some (.int .i64 acl) ∧ W.cell? ⟨w.heap.size, 1, none⟩ = some (.int .i64 asq) ∧ W.cell? ⟨w.heap.size, 2, none⟩ = some (.int .i64 akd) ∧ W.cell? ⟨w.heap.size, 3, none⟩ = some (.string aac) ∧ W.cell? ⟨w.heap.size, 4, none⟩ = some (.string ape) ∧ W.cell? ⟨w.heap.size, 5, none⟩ = some (.int .i64 asm) ∧ W.cell? ⟨w.heap.size, 6, none⟩ = some (.slice vA na ca) ∧ W.cell? ⟨w.heap.size, 7, none⟩ = some (.int .i64 apr) ∧ W.cell? ⟨w.heap.size, 8, none⟩ = some (.int .i64 ahd) ∧ W.cell? ⟨w.heap.size, 9, none⟩ = some (.string ant) ∧ W.cell? ⟨w.heap.size + 1, 0, none⟩ = some (.int .i64 bcl) ∧ W.cell? ⟨w.heap.size + 1, 1, none⟩ = some (.int .i64 bsq) ∧ W.cell? ⟨w.heap.size + 1, 2, none⟩ = some (.int .i64 bkd) ∧ W.cell? ⟨w.heap.size + 1, 3, none⟩ = some (.string bac) ∧ W.cell? ⟨w.heap.size + 1, 4, none⟩ = some (.string bpe) ∧ W.cell? ⟨w.heap.size + 1, 5, none⟩ = some (.int .i64 bsm) ∧ W.cell? ⟨w.heap.size + 1, 6, none⟩ = some (.slice vB nb cb) ∧ W.cell? ⟨w.heap.size + 1, 7, none⟩ = some (.int .i64 bpr) ∧ W.cell? ⟨w.heap.size + 1, 8, none⟩ = some (.int .i64 bhd) ∧ W.cell? ⟨w.heap.size + 1, 9, none⟩ = some (.string bnt))
    (first
      | (with_reducible refine HX.out _ ?_; with_reducible assumption)
      | (with_reducible refine HX.out _ (Fr.drew ?_); with_reducible first | assumption | exact Fr.refl _ w2))
    (first
      | (go_at_call 42; (with_reducible refine (HMA.out _ HF1.out.drew).mono ?_); rintro e q1 ⟨A1, c1, rfl, ho1, hl1, hm1, hg1, hn1⟩; have ka1 : Fr No w2 q1 := hk0.trans hg1)
      | (go_at_call 42; (with_reducible refine (HMB.out _ (HF1.out.trans ka1)).mono ?_); rintro e q2 ⟨A2, c2, rfl, ho2, hl2, hm2, hg2, hn2⟩; have ka2 : Fr No w2 q2 := ka1.trans hg2; have ho12 := ho1.fr hg2 (fun _ _ h => h))
      | (go_at_call 43; (with_reducible refine (HCL.out _ _ _ _ _ ho12 ho2).mono ?_); rintro e q3 ⟨rfl, hg3⟩; have ka3 : Fr No w2 q3 := ka2.trans hg3))
  go_wp2
  go_ret
  exact ⟨rfl, HF1.out.trans ka3⟩
end Go.Proofs.YtlanhclgbkhdlaaGreat
