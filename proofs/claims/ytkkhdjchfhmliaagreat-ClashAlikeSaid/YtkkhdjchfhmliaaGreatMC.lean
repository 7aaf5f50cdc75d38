/- clash.Clash. clash.positions: where each order of a list stands. clash.Right: no Id twice. Copies of orders: slices.Clone of legs, copies.Order, copies.All. copies.All; which orders a list lacks: clash.without; clash.kept. clash.kept, with the closure of clash.without; clash.contains. -/
import Derived.Test.YtkkhdjchfhmliaaGreatClash3
import Derived.Test.YtkkhdjchfhmliaaGreatMOV
import Derived.Test.YtkkhdjchfhmliaaGreatClashM
namespace Go.Proofs.YtkkhdjchfhmliaaGreat
open Go.RowKit Go.My Go.Maps
set_option linter.unusedSimpArgs false
set_option linter.unusedVariables false
attribute [local go_sem ↓] Go.wp_at_zero Go.wp_at_succ

theorem touch_len (o : Od) : (touchL o).length ≤ 2 + o.legs.length := by
  unfold touchL
  refine Nat.le_trans (upOf_length _) ?_
  unfold namesO
  refine Nat.le_trans (List.length_filter_le _ _) ?_
  rw [allN_length o _ (Nat.le_refl _)]
  exact Nat.le_refl _
def MarkRet (w : World) (f : Value → Value) (T : List (List UInt8)) (e : Ending) (w' : World) : Prop := ∃ A c, e = .returned (f (.slice A T.length c)) ∧ Own w' 9 1 (.slice A T.length c) T.length (ts T) ∧ T.length ≤ c ∧ c ≤ maxLen ∧ Fr No w w' ∧ ∀ k, (Value.slice A T.length c).ownBlock = some k → w.heap.size ≤ k
set_option maxRecDepth 100000 in
set_option maxHeartbeats 2000000 in
theorem clash_any (F G : Nat → Prop) (a b : Od) (va vb : Value) (w : World) (ha : LgS w F va a.legs) (hb : LgS w G vb b.legs) (h1 : a.legs.length ≤ 100000) (h2 : b.legs.length ≤ 100000) :
    Calls Tryz.prog 17 #[a.val va, b.val vb] w fun e w' => e = .returned (.bool (clashB a b)) ∧ Fr No w w' := by
  have HTA : Hid ((touchL a).length ≤ 1000000) := by show _ ≤ _; have := touch_len a; omega
  have HTB : Hid ((touchL b).length ≤ 1000000) := by show _ ≤ _; have := touch_len b; omega
  have HMA : Hid (∀ W, Fr No w W → Calls Tryz.prog 30 #[a.val va] W (MarkRet W (mkd a va) (touchL a))) := fun W hW => mark_any F a va W (ha.no hW) h1
  have HMB : Hid (∀ W, Fr No w W → Calls Tryz.prog 30 #[b.val vb] W (MarkRet W (mkd b vb) (touchL b))) := fun W hW => mark_any G b vb W (hb.no hW) h2
  have HCL : Hid (∀ W A B c d, Own W 9 1 (.slice A (touchL a).length c) (touchL a).length (ts (touchL a)) → Own W 9 1 (.slice B (touchL b).length d) (touchL b).length (ts (touchL b)) → Calls Tryz.prog 31 #[mkd a va (.slice A (touchL a).length c), mkd b vb (.slice B (touchL b).length d)] W fun e w' => e = .returned (.bool (clashB a b)) ∧ Fr No W w') := fun W A B c d q1 q2 => clashes_any _ _ a b va vb A B c d (touchL a) (touchL b) W q1.rd q2.rd HTA.out HTB.out
  obtain ⟨vA, ca, rfl, -, -⟩ := ha.form
  obtain ⟨vB, cb, rfl, -, -⟩ := hb.form
  generalize clashB a b = res at *
  generalize mkd a (.slice vA a.legs.length ca) = fa at *
  generalize mkd b (.slice vB b.legs.length cb) = fb at *
  generalize touchL a = TA at *
  generalize touchL b = TB at *
  clear ha hb h1 h2
  generalize a.legs.length = na at *
  generalize b.legs.length = nb at *
  obtain ⟨acl, asq, akd, aac, ape, asm, alg, apr, ahd, ant⟩ := a
  obtain ⟨bcl, bsq, bkd, bac, bpe, bsm, blg, bpr, bhd, bnt⟩ := b
  unfold Od.val Od.cs at *
  simp only at HMA HMB ⊢
  have hba := (Blk.new w 39 #[.int .i64 acl, .int .i64 asq, .int .i64 akd, .string aac, .string ape, .int .i64 asm, .slice vA na ca, .int .i64 apr, .int .i64 ahd, .string ant]).alloc (.cells #[.int .i64 bcl, .int .i64 bsq, .int .i64 bkd, .string bac, .string bpe, .int .i64 bsm, .slice vB nb cb, .int .i64 bpr, .int .i64 bhd, .string bnt] 39)
  have hbb := Blk.new (w.alloc (.cells #[.int .i64 acl, .int .i64 asq, .int .i64 akd, .string aac, .string ape, .int .i64 asm, .slice vA na ca, .int .i64 apr, .int .i64 ahd, .string ant] 39)) 39 #[.int .i64 bcl, .int .i64 bsq, .int .i64 bkd, .string bac, .string bpe, .int .i64 bsm, .slice vB nb cb, .int .i64 bpr, .int .i64 bhd, .string bnt]
  rw [World.size_alloc] at hbb
  have HF1 : Hid (Fr No w ((w.alloc (.cells #[.int .i64 acl, .int .i64 asq, .int .i64 akd, .string aac, .string ape, .int .i64 asm, .slice vA na ca, .int .i64 apr, .int .i64 ahd, .string ant] 39)).alloc (.cells #[.int .i64 bcl, .int .i64 bsq, .int .i64 bkd, .string bac, .string bpe, .int .i64 bsm, .slice vB nb cb, .int .i64 bpr, .int .i64 bhd, .string bnt] 39))) := ((Fr.refl _ _).alloc _).alloc _
  go_enter Tryz.func17, Tryz.ntmps17
  go_upto_region 1 with (fail)
  generalize (w.alloc (.cells #[.int .i64 acl, .int .i64 asq, .int .i64 akd, .string aac, .string ape, .int .i64 asm, .slice vA na ca, .int .i64 apr, .int .i64 ahd, .string ant] 39)).alloc (.cells #[.int .i64 bcl, .int .i64 bsq, .int .i64 bkd, .string bac, .string bpe, .int .i64 bsm, .slice vB nb cb, .int .i64 bpr, .int .i64 bhd, .string bnt] 39) = w2 at *
  have HX : Hid (∀ W, Fr No w2 W → Fr No w2 W ∧ W.cell? ⟨w.heap.size, 0, none⟩ = some (.int .i64 acl) ∧ W.cell? ⟨w.heap.size, 1, none⟩ = some (.int .i64 asq) ∧ W.cell? ⟨w.heap.size, 2, none⟩ = some (.int .i64 akd) ∧ W.cell? ⟨w.heap.size, 3, none⟩ = some (.string aac) ∧ W.cell? ⟨w.heap.size, 4, none⟩ = some (.string ape) ∧ W.cell? ⟨w.heap.size, 5, none⟩ = some (.int .i64 asm) ∧ W.cell? ⟨w.heap.size, 6, none⟩ = some (.slice vA na ca) ∧ W.cell? ⟨w.heap.size, 7, none⟩ = some (.int .i64 apr) ∧ W.cell? ⟨w.heap.size, 8, none⟩ = some (.int .i64 ahd) ∧ W.cell? ⟨w.heap.size, 9, none⟩ = some (.string ant) ∧ W.cell? ⟨w.heap.size + 1, 0, none⟩ = some (.int .i64 bcl) ∧ W.cell? ⟨w.heap.size + 1, 1, none⟩ = some (.int .i64 bsq) ∧ W.cell? ⟨w.heap.size + 1, 2, none⟩ = some (.int .i64 bkd) ∧ W.cell? ⟨w.heap.size + 1, 3, none⟩ = some (.string bac) ∧ W.cell? ⟨w.heap.size + 1, 4, none⟩ = some (.string bpe) ∧ W.cell? ⟨w.heap.size + 1, 5, none⟩ = some (.int .i64 bsm) ∧ W.cell? ⟨w.heap.size + 1, 6, none⟩ = some (.slice vB nb cb) ∧ W.cell? ⟨w.heap.size + 1, 7, none⟩ = some (.int .i64 bpr) ∧ W.cell? ⟨w.heap.size + 1, 8, none⟩ = some (.int .i64 bhd) ∧ W.cell? ⟨w.heap.size + 1, 9, none⟩ = some (.string bnt)) := fun W hW => by
    have h1 := hba.fr hW (fun h => h)
    have h2 := hbb.fr hW (fun h => h)
    exact ⟨hW, h1.cell 0, h1.cell 1, h1.cell 2, h1.cell 3, h1.cell 4, h1.cell 5, h1.cell 6, h1.cell 7, h1.cell 8, h1.cell 9, h2.cell 0, h2.cell 1, h2.cell 2, h2.cell 3, h2.cell 4, h2.cell 5, h2.cell 6, h2.cell 7, h2.cell 8, h2.cell 9⟩
  have hk0 : Fr No w2 w2.drew := (Fr.refl _ w2).drew
  clear hba hbb
  go_region_held3 (fun W => Fr No w2 W ∧ W.cell? ⟨w.heap.size, 0, none⟩ = some (.int .i64 acl) ∧ W.cell? ⟨w.heap.size, 1, none⟩ = some (.int .i64 asq) ∧ W.cell? ⟨w.heap.size, 2, none⟩ = some (.int .i64 akd) ∧ W.cell? ⟨w.heap.size, 3, none⟩ = some (.string aac) ∧ W.cell? ⟨w.heap.size, 4, none⟩ = some (.string ape) ∧ W.cell? ⟨w.heap.size, 5, none⟩ = some (.int .i64 asm) ∧ W.cell? ⟨w.heap.size, 6, none⟩ = some (.slice vA na ca) ∧ W.cell? ⟨w.heap.size, 7, none⟩ = some (.int .i64 apr) ∧ W.cell? ⟨w.heap.size, 8, none⟩ = some (.int .i64 ahd) ∧ W.cell? ⟨w.heap.size, 9, none⟩ = some (.string ant) ∧ W.cell? ⟨w.heap.size + 1, 0, none⟩ = some (.int .i64 bcl) ∧ W.cell? ⟨w.heap.size + 1, 1, none⟩ = some (.int .i64 bsq) ∧ W.cell? ⟨w.heap.size + 1, 2, none⟩ = some (.int .i64 bkd) ∧ W.cell? ⟨w.heap.size + 1, 3, none⟩ = some (.string bac) ∧ W.cell? ⟨w.heap.size + 1, 4, none⟩ = some (.string bpe) ∧ W.cell? ⟨w.heap.size + 1, 5, none⟩ = some (.int .i64 bsm) ∧ W.cell? ⟨w.heap.size + 1, 6, none⟩ = some (.slice vB nb cb) ∧ W.cell? ⟨w.heap.size + 1, 7, none⟩ = some (.int .i64 bpr) ∧ W.cell? ⟨w.heap.size + 1, 8, none⟩ = some (.int .i64 bhd) ∧ W.cell? ⟨w.heap.size + 1, 9, none⟩ = some (.string bnt))
    (first
      | (with_reducible refine HX.out _ ?_; with_reducible assumption)
      | (with_reducible refine HX.out _ (Fr.drew ?_); with_reducible first | assumption | exact Fr.refl _ w2))
    (first
      | (go_at_call 30; (with_reducible refine (HMA.out _ HF1.out.drew).mono ?_); rintro e q1 ⟨A1, c1, rfl, ho1, hl1, hm1, hg1, hn1⟩; have ka1 : Fr No w2 q1 := hk0.trans hg1)
      | (go_at_call 30; (with_reducible refine (HMB.out _ (HF1.out.trans ka1)).mono ?_); rintro e q2 ⟨A2, c2, rfl, ho2, hl2, hm2, hg2, hn2⟩; have ka2 : Fr No w2 q2 := ka1.trans hg2; have ho12 := ho1.fr hg2 (fun _ _ h => h))
      | (go_at_call 31; (with_reducible refine (HCL.out _ _ _ _ _ ho12 ho2).mono ?_); rintro e q3 ⟨rfl, hg3⟩; have ka3 : Fr No w2 q3 := ka2.trans hg3))
  go_wp2
  go_ret
  exact ⟨rfl, HF1.out.trans ka3⟩
end Go.Proofs.YtkkhdjchfhmliaaGreat

namespace Go.Proofs.YtkkhdjchfhmliaaGreat
open Go.RowKit Go.My Go.Maps Go.WideMaps
set_option linter.unusedSimpArgs false
set_option linter.unusedVariables false
attribute [local go_sem ↓] Go.wp_at_zero Go.wp_at_succ

def PoRel (w : World) (m : Nat) (l : List Od) (iv : Value) (wr : World) : Prop := ∃ k : Nat, k ≤ l.length ∧ iv = .int .i64 k ∧ IMp wr m (idsO (l.take k)) ∧ Fr No w wr
set_option maxRecDepth 100000 in
set_option maxHeartbeats 1000000 in
theorem positions_any (w0 w : World) (F : Nat → Prop) (A : Option Addr) (c : Nat) (l : List Od) (hl : OdsS w0 w F A l) (hn : l.length ≤ 1000000) :
    Calls Tryz.prog 39 #[.slice A l.length c] w fun e w' => ∃ m, e = .returned (.map (some m)) ∧ IMp w' m (idsO l) ∧ Fr No w w' ∧ w.heap.size ≤ m := by
  have HL := Lib.hid hl
  have hmm := @run_makeMap Tryz.prog
  have h0 : IMp (w.alloc (.map #[] 0)) w.heap.size (idsO (l.take 0)) := ⟨⟨_, World.ownsMap_made _ _ _ _, RepI.nil⟩⟩
  have HI0 := Lib.hid h0
  have HF0 : Hid (Fr No w (w.alloc (.map #[] 0))) := (Fr.refl _ _).alloc _
  clear hl h0
  go_enter Tryz.func39, Tryz.ntmps39
  go_wp2
  go_loopw [9] (fun iv wr => PoRel w w.heap.size l iv wr) (fun iv _ => l.length - (intOf iv).toNat)
  case atStart => exact ⟨0, Nat.zero_le _, rfl, HI0.out, HF0.out⟩
  case round =>
    obtain ⟨k, hk, rfl, hm, hfr⟩ := hrel
    have hk62 : (k : Int) ≤ 1000000 := by omega
    by_cases hlt : k < l.length
    · obtain ⟨ad, v, rfl, _, hok, hg, hL, q0, q1, q2, q3, q4, q5, q6, q7, q8, q9⟩ := (HL.out.fr hfr (fun _ _ _ h => h)).at_ k hlt
      obtain ⟨B, d, rfl, hd1, hd2⟩ := hL.form
      have hids := idsO_take l hlt
      have hlen : (idsO (l.take k)).length = k := by unfold idsO; rw [List.length_map, List.length_take]; omega
      have HOK : Hid (IdOk l[k].id) := ⟨hok.1, hok.2.1⟩
      have HM := Lib.hid hm
      have HFR := Lib.hid hfr
      have HIDS := Lib.hid hids
      have hml := hm.lt
      generalize l[k] = o at *
      clear hok hg hL hm hfr hids
      generalize idsO (l.take k) = L at *
      go_wp2_with (at_mapUpdate; refine wpList_putI _ rfl (.tmp 14) (.tmp 16) (.tmp 17) rfl rfl (HM.out.fr ((Fr.refl No _).alloc _) (fun h => h)) o.id rfl (by rw [hlen]; rfl) HOK.out (by rw [hlen]; simp only [maxLen]; omega) (by rw [hlen]; unfold In64; omega) ?_; intro w3 hm3 hf3)
      go_roundw
      case rel =>
        refine ⟨k + 1, by omega, by go_num, by rw [HIDS.out]; exact hm3, ?_⟩
        exact (HFR.out.alloc _).trans' hf3 (fun i hi hlt2 => by have : i = w.heap.size := hi; omega)
      case measure => simp [intOf]; omega
    · obtain rfl : k = l.length := by omega
      rw [List.take_length] at hm
      go_wp2
      go_ret
      exact ⟨_, rfl, hm, hfr, Nat.le_refl _⟩
end Go.Proofs.YtkkhdjchfhmliaaGreat

namespace Go.Proofs.YtkkhdjchfhmliaaGreat
open Go.RowKit Go.My Go.Maps Go.WideMaps
set_option linter.unusedSimpArgs false
set_option linter.unusedVariables false
attribute [local go_sem ↓] Go.wp_at_zero Go.wp_at_succ

theorem IMp.len_ {w : World} {m : Nat} {L : List Idk} (h : IMp w m L) (ty : TypeId) : (Builtin.len_ #[82] ty #[.map (some m)]).run Tryz.prog w = .ok (.int .i64 (keysF L).length) w := by
  obtain ⟨D, hD, hR⟩ := h.own
  have := hD.len Tryz.underlying82 ty
  rw [hR.size] at this
  exact this
theorem right_eq (l : List Od) : decide (((keysF (idsO l)).length : Int) = (l.length : Int)) = rightL l := by
  unfold rightL
  apply decide_eq_decide.2
  rw [← len_keysF_iff]
  unfold idsO
  rw [List.length_map]
  omega
set_option maxRecDepth 100000 in
theorem rightC_any (w0 w : World) (F : Nat → Prop) (A : Option Addr) (c : Nat) (l : List Od) (hl : OdsS w0 w F A l) (hn : l.length ≤ 1000000) :
    Calls Tryz.prog 27 #[.slice A l.length c] w fun e w' => e = .returned (.bool (rightL l)) ∧ Fr No w w' := by
  have HP := Lib.hid (positions_any w0 w F A c l hl hn)
  have HE := Lib.hid (right_eq l)
  clear hl hn
  go_enter Tryz.func27, Tryz.ntmps27
  go_wp2_with fail
  (with_reducible refine HP.out.mono ?_)
  rintro e w1 ⟨m, rfl, hm, hf, -⟩
  have hlen := fun ty => hm.len_ ty
  generalize (keysF (idsO l)).length = kn at *
  go_wp2
  go_ret
  exact ⟨by rw [← HE.out]; rfl, hf⟩
end Go.Proofs.YtkkhdjchfhmliaaGreat

namespace Go.Proofs.YtkkhdjchfhmliaaGreat
open Go.RowKit Go.My Go.Maps Go.WideMaps
set_option linter.unusedSimpArgs false
set_option linter.unusedVariables false
attribute [local go_sem ↓] Go.wp_at_zero Go.wp_at_succ

/-- blocks that are new since B, and lie in w, and are not that one -/
def New (B : Nat) (w : World) (g : Option Nat) (k : Nat) : Prop := B ≤ k ∧ k < w.heap.size ∧ g ≠ some k
theorem LgS.more {w : World} {F G : Nat → Prop} {v : Value} {L : List Lg} (h : LgS w F v L) (hF : ∀ k, F k → G k) : LgS w G v L := by
  obtain ⟨A, c, cells, e, hr, r⟩ := h
  exact ⟨A, c, cells, e, hr.more hF, r⟩
theorem LgS.frS {w w' : World} {F S : Nat → Prop} {v : Value} {L : List Lg} (h : LgS w F v L) (hf : Fr S w w') (hn : ∀ k, F k → k < w.heap.size → ¬ S k) : LgS w' F v L := by
  obtain ⟨A, c, cells, e, hr, r⟩ := h
  exact ⟨A, c, cells, e, hr.fr (by omega) hf hn, r⟩
theorem LgS.okl {w : World} {F : Nat → Prop} {v : Value} {L : List Lg} (h : LgS w F v L) : ∀ g ∈ L, g.ok := fun g hg => by
  obtain ⟨A, c, cells, e, hr, hE, _⟩ := h
  obtain ⟨i, hi, rfl⟩ := List.getElem_of_mem hg
  exact (hE.2 i _ (List.getElem?_eq_getElem hi)).2
def RetLg (w : World) (L : List Lg) (e : Ending) (w' : World) : Prop := ∃ A c, e = .returned (.slice A L.length c) ∧ LgS w' (New w.heap.size w' none) (.slice A L.length c) L ∧ Fr No w w'
set_option maxRecDepth 100000 in
theorem cloneL_any (F : Nat → Prop) (v : Value) (L : List Lg) (w : World) (h : LgS w F v L) (hl : L.length ≤ 100000) :
    Calls Tryz.prog 38 #[v] w (RetLg w L) := by
  have hok := h.okl
  obtain ⟨A, c, cells, rfl, hr, hE, h1, h2⟩ := h
  have hce := each_lgs L cells hE
  have hnil := fun W => Lib.run_eql_slice_nil (P := Tryz.prog) W 37 81 A L.length c 0 0 Tryz.underlying37
  rcases A with _ | ad
  · have hl0 : L.length = 0 := by
      rcases Nat.eq_zero_or_pos L.length with h0 | h0
      · exact h0
      · obtain ⟨ad, h, _⟩ := hr.2 h0
        cases h
    have : L = [] := List.eq_nil_of_length_eq_zero hl0
    subst this
    simp only [Option.isNone_none, List.length_nil] at hnil
    clear hr hE hce hok
    go_enter Tryz.func38, Tryz.ntmps38
    go_wp2
    go_ret
    exact ⟨none, 0, rfl, LgS_nil _ _, Fr.refl _ _⟩
  · simp only [Option.isNone_some] at hnil
    have hmt : Own (w.alloc (.cells #[] 81)) 81 2 (.slice (some ⟨w.heap.size, 0, none⟩) 0 0) 0 [] := ⟨by simp, .inr ⟨w.heap.size, 0, #[], rfl, heap_alloc_new w _, by omega, by simp only [maxLen]; omega, by simp, by simp⟩⟩
    have hsrc : Src Tryz.prog (w.alloc (.cells #[] 81)) 2 37 (.slice (some ad) L.length c) L.length cells :=
      Src.of_rd (hr.fr (S := No) (by omega) ((Fr.refl _ _).alloc _) (fun _ _ _ h => h)) (by rw [hce]; exact lgs_ones L) Tryz.underlying37
    have HM := Lib.hid hmt
    have HR := Lib.hid hsrc
    have HE := Lib.hid hE
    have HS := Lib.hid hl
    clear hr hE hce hok hmt hsrc hl h1 h2
    go_enter Tryz.func38, Tryz.ntmps38
    go_wp2_with (at_builtin; refine wpList_app _ rfl (.tmp 5) (.tmp 6) 37 37 rfl elL HM.out rfl HR.out rfl (by simp only [maxLen]; have := HS.out; omega) (by have := HS.out; omega) ?_; intro v1 w1 ho1 hf1 hn1)
    go_ret
    rw [Nat.zero_add, List.nil_append] at ho1
    obtain ⟨A1, c1, rfl, hc1, hc2⟩ := ho1.form
    have hf2 : Fr No w w1 := ((Fr.refl No w).alloc (.cells #[] 81)).trans' hf1 (fun i hi hlt => by
      simp only [AtO, Value.ownBlock, Option.some.injEq] at hi
      omega)
    refine ⟨A1, c1, rfl, ⟨A1, c1, cells, rfl, ho1.rd.lt (by omega) |>.more (fun k hk => ?_), HE.out, hc1, hc2⟩, hf2⟩
    refine ⟨?_, hk.2, fun h => by cases h⟩
    rcases hn1 with h | h
    · rw [h] at hk
      have := hk.1
      simp only [Value.ownBlock, Option.some.injEq] at this
      omega
    · rw [h] at hk
      have := hk.1
      simp only [Option.some.injEq, World.size_alloc] at this
      omega
def OrdRet (w : World) (o : Od) (e : Ending) (w' : World) : Prop := ∃ A c, e = .returned (o.val (.slice A o.legs.length c)) ∧ LgS w' (New w.heap.size w' none) (.slice A o.legs.length c) o.legs ∧ Fr No w w'
theorem fr_set10 (w : World) (g : Nat) (a0 a1 a2 a3 a4 a5 a6 a7 a8 a9 : Value) : Fr (At1 g) w ((((((((((w.setCell ⟨g, 0, none⟩ a0).setCell ⟨g, 1, none⟩ a1).setCell ⟨g, 2, none⟩ a2).setCell ⟨g, 3, none⟩ a3).setCell ⟨g, 4, none⟩ a4).setCell ⟨g, 5, none⟩ a5).setCell ⟨g, 6, none⟩ a6).setCell ⟨g, 7, none⟩ a7).setCell ⟨g, 8, none⟩ a8).setCell ⟨g, 9, none⟩ a9) := (((((((((fr_set w g 0 a0).trans (fr_set _ g 1 a1)).trans (fr_set _ g 2 a2)).trans (fr_set _ g 3 a3)).trans (fr_set _ g 4 a4)).trans (fr_set _ g 5 a5)).trans (fr_set _ g 6 a6)).trans (fr_set _ g 7 a7)).trans (fr_set _ g 8 a8)).trans (fr_set _ g 9 a9)
set_option maxRecDepth 100000 in
set_option maxHeartbeats 2000000 in
theorem copyO_any (F : Nat → Prop) (o : Od) (v : Value) (w : World) (hv : LgS w F v o.legs) (hl : o.legs.length ≤ 100000) : Calls Tryz.prog 25 #[o.val v] w (OrdRet w o) := by
  have HT : Hid (∀ W, Fr No w W → Calls Tryz.prog 38 #[v] W (RetLg W o.legs)) := fun W hW => cloneL_any F v o.legs W (hv.no hW) hl
  obtain ⟨vB, vd, rfl, -, -⟩ := hv.form
  clear hv hl
  obtain ⟨ocl, osq, okd, oac, ope, osm, olg, opr, ohd, ont⟩ := o
  unfold OrdRet Od.val Od.cs at *
  unfold RetLg at HT
  simp only at HT ⊢
  generalize olg.length = vn at *
  have hbo := (Blk.new w 39 #[.int .i64 ocl, .int .i64 osq, .int .i64 okd, .string oac, .string ope, .int .i64 osm, .slice vB vn vd, .int .i64 opr, .int .i64 ohd, .string ont]).alloc (.cells #[.int .i64 0, .int .i64 0, .int .i64 0, .string ⟨#[]⟩, .string ⟨#[]⟩, .int .i64 0, .slice none 0 0, .int .i64 0, .int .i64 0, .string ⟨#[]⟩] 39)
  have hbz := Blk.new (w.alloc (.cells #[.int .i64 ocl, .int .i64 osq, .int .i64 okd, .string oac, .string ope, .int .i64 osm, .slice vB vn vd, .int .i64 opr, .int .i64 ohd, .string ont] 39)) 39 #[.int .i64 0, .int .i64 0, .int .i64 0, .string ⟨#[]⟩, .string ⟨#[]⟩, .int .i64 0, .slice none 0 0, .int .i64 0, .int .i64 0, .string ⟨#[]⟩]
  rw [World.size_alloc] at hbz
  have hf1 : Fr No w ((w.alloc (.cells #[.int .i64 ocl, .int .i64 osq, .int .i64 okd, .string oac, .string ope, .int .i64 osm, .slice vB vn vd, .int .i64 opr, .int .i64 ohd, .string ont] 39)).alloc (.cells #[.int .i64 0, .int .i64 0, .int .i64 0, .string ⟨#[]⟩, .string ⟨#[]⟩, .int .i64 0, .slice none 0 0, .int .i64 0, .int .i64 0, .string ⟨#[]⟩] 39)) := ((Fr.refl _ _).alloc _).alloc _
  have hsz : ((w.alloc (.cells #[.int .i64 ocl, .int .i64 osq, .int .i64 okd, .string oac, .string ope, .int .i64 osm, .slice vB vn vd, .int .i64 opr, .int .i64 ohd, .string ont] 39)).alloc (.cells #[.int .i64 0, .int .i64 0, .int .i64 0, .string ⟨#[]⟩, .string ⟨#[]⟩, .int .i64 0, .slice none 0 0, .int .i64 0, .int .i64 0, .string ⟨#[]⟩] 39)).heap.size = w.heap.size + 2 := by rw [World.size_alloc, World.size_alloc]
  go_enter Tryz.func25, Tryz.ntmps25
  go_upto_region 1 with (fail)
  generalize ((w.alloc (.cells #[.int .i64 ocl, .int .i64 osq, .int .i64 okd, .string oac, .string ope, .int .i64 osm, .slice vB vn vd, .int .i64 opr, .int .i64 ohd, .string ont] 39)).alloc (.cells #[.int .i64 0, .int .i64 0, .int .i64 0, .string ⟨#[]⟩, .string ⟨#[]⟩, .int .i64 0, .slice none 0 0, .int .i64 0, .int .i64 0, .string ⟨#[]⟩] 39)) = w2 at *
  have HF1 := Lib.hid hf1
  have HBO := Lib.hid hbo
  have HBZ := Lib.hid hbz
  have HSZ := Lib.hid hsz
  have x6 := hbo.cell 6
  simp only [List.getElem?_toArray, List.getElem?_cons_zero, List.getElem?_cons_succ] at x6
  clear hbo hbz hf1 hsz
  go_wp2_with fail
  (with_reducible refine (HT.out _ HF1.out).mono ?_)
  rintro e w3 ⟨A1, c1, rfl, hL3, hf3⟩
  have hbo := HBO.out.fr hf3 (fun h => h)
  have hbz := HBZ.out.fr hf3 (fun h => h)
  have HL3 := Lib.hid hL3
  have HF3 := Lib.hid hf3
  have HBZ3 := Lib.hid hbz
  have x0 := hbo.cell 0
  have y0 := hbz.cell 0
  have zx0 := hbo.frozen 0
  have zy0 := hbz.frozen 0
  have x1 := hbo.cell 1
  have y1 := hbz.cell 1
  have zx1 := hbo.frozen 1
  have zy1 := hbz.frozen 1
  have x2 := hbo.cell 2
  have y2 := hbz.cell 2
  have zx2 := hbo.frozen 2
  have zy2 := hbz.frozen 2
  have x3 := hbo.cell 3
  have y3 := hbz.cell 3
  have zx3 := hbo.frozen 3
  have zy3 := hbz.frozen 3
  have x4 := hbo.cell 4
  have y4 := hbz.cell 4
  have zx4 := hbo.frozen 4
  have zy4 := hbz.frozen 4
  have x5 := hbo.cell 5
  have y5 := hbz.cell 5
  have zx5 := hbo.frozen 5
  have zy5 := hbz.frozen 5
  have x6 := hbo.cell 6
  have y6 := hbz.cell 6
  have zx6 := hbo.frozen 6
  have zy6 := hbz.frozen 6
  have x7 := hbo.cell 7
  have y7 := hbz.cell 7
  have zx7 := hbo.frozen 7
  have zy7 := hbz.frozen 7
  have x8 := hbo.cell 8
  have y8 := hbz.cell 8
  have zx8 := hbo.frozen 8
  have zy8 := hbz.frozen 8
  have x9 := hbo.cell 9
  have y9 := hbz.cell 9
  have zx9 := hbo.frozen 9
  have zy9 := hbz.frozen 9
  simp only [List.getElem?_toArray, List.getElem?_cons_zero, List.getElem?_cons_succ] at x0 y0 x1 y1 x2 y2 x3 y3 x4 y4 x5 y5 x6 y6 x7 y7 x8 y8 x9 y9
  have hbo6 := hbo.set_ 6 (.slice A1 vn c1)
  have HFA : Hid (Fr (At1 w.heap.size) w3 (w3.setCell ⟨w.heap.size, 6, none⟩ (.slice A1 vn c1))) := fr_set _ _ _ _
  have HFB : Hid (Fr (At1 (w.heap.size + 1)) (w3.setCell ⟨w.heap.size, 6, none⟩ (.slice A1 vn c1)) _) := fr_set10 _ (w.heap.size + 1) (.int .i64 ocl) (.int .i64 osq) (.int .i64 okd) (.string oac) (.string ope) (.int .i64 osm) (.slice A1 vn c1) (.int .i64 opr) (.int .i64 ohd) (.string ont)
  clear hbo hbz hbo6 hL3 hf3 HT
  go_wp2
  refine bodyPost_ret (v := .agg #[.int .i64 ocl, .int .i64 osq, .int .i64 okd, .string oac, .string ope, .int .i64 osm, .slice A1 vn c1, .int .i64 opr, .int .i64 ohd, .string ont]) (by simp [results, Tryz.results25, go_sem, y0, y1, y2, y3, y4, y5, y6, y7, y8, y9]) rfl ?_
  refine ⟨A1, c1, rfl, ?_, ?_⟩
  · refine ((HL3.out.frS HFA.out ?_).frS HFB.out ?_).more ?_
    · rintro k hk _ rfl
      have := hk.1
      have := HSZ.out
      omega
    · rintro k hk _ rfl
      have := hk.1
      have := HSZ.out
      omega
    · intro k hk
      have h1 := hk.1
      have h2 := HSZ.out
      have h3 := HFA.out.size
      have h4 := HFB.out.size
      have h5 := hk.2.1
      exact ⟨by omega, by omega, hk.2.2⟩
  · refine ((HF1.out.trans HF3.out).trans' HFA.out ?_).trans' HFB.out ?_
    · rintro i rfl hlt
      omega
    · rintro i rfl hlt
      omega
end Go.Proofs.YtkkhdjchfhmliaaGreat

namespace Go.Proofs.YtkkhdjchfhmliaaGreat
open Go.RowKit Go.My Go.Maps Go.WideMaps
set_option linter.unusedSimpArgs false
set_option linter.unusedVariables false
attribute [local go_sem ↓] Go.wp_at_zero Go.wp_at_succ

def OdRF (w : World) (F : Nat → Prop) (cs : List Value) (o : Od) : Prop := ∃ v, cs = o.cs v ∧ o.ok ∧ (∀ g ∈ o.legs, g.ok) ∧ LgS w F v o.legs
/-- a row of the call's own that holds orders whose legs are new since B, and lie apart from it -/
def OwnN (B : Nat) (w : World) (v : Value) (l : List Od) : Prop := ∃ cells, Own w 39 10 v l.length cells ∧ Each (OdRF w (New B w v.ownBlock)) 10 cells l
theorem each_imp {α : Type} {R R' : List Value → α → Prop} {n : Nat} {cells : List Value} {L : List α} (h : Each R n cells L) (hi : ∀ cs x, R cs x → R' cs x) : Each R' n cells L := ⟨h.1, fun i x hx => hi _ _ (h.2 i x hx)⟩
theorem each_snoc {R : List Value → Od → Prop} {n : Nat} {cells cs : List Value} {l : List Od} (h : Each R n cells l) {o : Od} (hn : 0 < n) (hl : cs.length = n) (ho : R cs o) : Each R n (cells ++ cs) (l ++ [o]) := by
  refine ⟨by rw [List.length_append, hl, h.1, List.length_append, List.length_singleton, Nat.add_mul]; omega, fun i x hx => ?_⟩
  by_cases hi : i < l.length
  · rw [List.getElem?_append_left hi] at hx
    have h1 := h.2 i x hx
    have h2 : i * n + n ≤ cells.length := by rw [h.1]; have := Nat.mul_le_mul_right n (show i + 1 ≤ l.length from hi); rw [Nat.add_mul] at this; omega
    rw [List.drop_append_of_le_length (by omega), List.take_append_of_le_length (by rw [List.length_drop]; omega)]
    exact h1
  · rw [List.getElem?_append_right (by omega)] at hx
    have hi0 : i - l.length = 0 := by
      rcases Nat.eq_zero_or_pos (i - l.length) with h0 | h0
      · exact h0
      · rw [List.getElem?_eq_none (by rw [List.length_singleton]; omega)] at hx; cases hx
    rw [hi0] at hx
    simp only [List.getElem?_cons_zero, Option.some.injEq] at hx
    subst hx
    have : i = l.length := by omega
    subst this
    rw [← h.1, List.drop_left, List.take_of_length_le (by omega)]
    exact ho
theorem OdRF.r {w : World} {F : Nat → Prop} (hF : ∀ k, F k → k < w.heap.size) {cs : List Value} {o : Od} (h : OdRF w F cs o) : OdR w cs o := by
  obtain ⟨v, h1, h2, h3, h4⟩ := h
  exact ⟨v, h1, h2, h3, h4.more hF⟩
theorem OwnN.nil (B : Nat) (w : World) : OwnN B w (.slice none 0 0) [] := ⟨[], Own.nil _ _ _, ⟨rfl, fun i x hx => by simp at hx⟩⟩
theorem OwnN.form {B : Nat} {w : World} {v : Value} {l : List Od} (h : OwnN B w v l) : ∃ A c, v = .slice A l.length c ∧ l.length ≤ c ∧ c ≤ maxLen := by
  obtain ⟨cells, ho, _⟩ := h
  exact ho.form
theorem OwnN.lt {B : Nat} {w : World} {v : Value} {l : List Od} (h : OwnN B w v l) : ∀ k, v.ownBlock = some k → k < w.heap.size := by
  obtain ⟨cells, ho, _⟩ := h
  exact ho.lt
theorem OwnN.no {B : Nat} {w w' : World} {v : Value} {l : List Od} (h : OwnN B w v l) (hf : Fr No w w') : OwnN B w' v l := by
  obtain ⟨cells, ho, hE⟩ := h
  refine ⟨cells, ho.fr hf (fun _ _ h => h), each_imp hE fun cs o ⟨v, h1, h2, h3, h4⟩ => ⟨v, h1, h2, h3, (h4.no hf).more fun k hk => ⟨hk.1, Nat.lt_of_lt_of_le hk.2.1 hf.size, hk.2.2⟩⟩⟩
theorem OwnN.ods {B : Nat} {w : World} {A : Option Addr} {m c : Nat} {l : List Od} (h : OwnN B w (.slice A m c) l) : OdsS w w (fun k => (Value.slice A m c).ownBlock = some k) A l := by
  obtain ⟨cells, ho, hE⟩ := h
  exact ⟨cells, ho.rd, each_imp hE fun cs o h => h.r fun k hk => hk.2.1⟩
/-- orders as they lie now -/
theorem OdsS.now {w w' : World} {F : Nat → Prop} {A : Option Addr} {l : List Od} (h : OdsS w w F A l) (hf : Fr No w w') : OdsS w' w' F A l := by
  obtain ⟨cells, hr, hE⟩ := h
  exact ⟨cells, hr.fr (by omega) hf (fun _ _ _ h => h), each_imp hE fun cs o ⟨v, h1, h2, h3, h4⟩ => ⟨v, h1, h2, h3, (h4.no hf).more fun k hk => Nat.lt_of_lt_of_le hk hf.size⟩⟩
theorem eachN_put {B : Nat} {w wa w1 w2 w3 : World} {g g1 : Option Nat} {cells : List Value} {l : List Od} {o : Od} {v : Value} (hB : B ≤ wa.heap.size) (hE : Each (OdRF w (New B w g)) 10 cells l) (hg : ∀ k, g = some k → k < w.heap.size)
    (h1 : Fr No w wa) (h2 : Fr No wa w1) (hL : LgS w1 (New wa.heap.size w1 none) v o.legs) (h3 : Fr No w1 w2) (h4 : Fr (AtO g) w2 w3) (hn : g1 = g ∨ g1 = some w2.heap.size) (hok : o.ok) (hgs : ∀ g ∈ o.legs, g.ok) :
    Each (OdRF w3 (New B w3 g1)) 10 (cells ++ o.cs v) (l ++ [o]) := by
  have s1 := h1.size
  have s2 := h2.size
  have s3 := h3.size
  have s4 := h4.size
  have e1 : ∀ k, New B w g k → New B w3 g1 k := fun k hk => by
    obtain ⟨k1, k2, k3⟩ := hk
    refine ⟨k1, by omega, fun e => ?_⟩
    rcases hn with rfl | rfl
    · exact k3 e
    · simp only [Option.some.injEq] at e
      omega
  have e2 : ∀ k, New wa.heap.size w1 none k → New B w3 g1 k := fun k hk => by
    obtain ⟨k1, k2, k3⟩ := hk
    refine ⟨by omega, by omega, fun e => ?_⟩
    rcases hn with rfl | rfl
    · have := hg k e
      omega
    · simp only [Option.some.injEq] at e
      omega
  have hE1 : Each (OdRF w3 (New B w3 g1)) 10 cells l := each_imp hE fun cs o ⟨v, k1, k2, k3, k4⟩ => ⟨v, k1, k2, k3, ((k4.no ((h1.trans h2).trans h3)).frS h4 fun k hk _ e => hk.2.2 e).more e1⟩
  refine each_snoc hE1 (by omega) rfl ⟨v, rfl, hok, hgs, ((hL.no h3).frS h4 fun k hk _ e => ?_).more e2⟩
  have := hg k e
  have := hk.1
  omega
/-- handed back: orders of the call's own -/
def RetN (w : World) (l : List Od) (e : Ending) (w' : World) : Prop := ∃ A c, e = .returned (.slice A l.length c) ∧ OwnN w.heap.size w' (.slice A l.length c) l ∧ Fr No w w' ∧ ∀ k, (Value.slice A l.length c).ownBlock = some k → w.heap.size ≤ k
def CpRel (w : World) (l : List Od) (lv iv : Value) (wr : World) : Prop := ∃ k : Nat, k ≤ l.length ∧ iv = .int .i64 k ∧ OwnN w.heap.size wr lv (l.take k) ∧ Fr No w wr ∧ Newer w.heap.size none lv.ownBlock
set_option maxRecDepth 100000 in
set_option maxHeartbeats 1000000 in
theorem copyAll_any (w : World) (F : Nat → Prop) (A : Option Addr) (c : Nat) (l : List Od) (hl : OdsS w w F A l) (hn : l.length ≤ 1000000) (hs : ∀ o ∈ l, o.legs.length ≤ 100000) :
    Calls Tryz.prog 24 #[.slice A l.length c, .func (.func 25) #[] #[]] w (RetN w l) := by
  have HL := Lib.hid hl
  have HS := Lib.hid hs
  have hen : ∀ args W, (callFunc 25 args).run Tryz.prog W = .ok (.enter 25 args) W := enters_of Tryz.func25 (by kernel_rfl) rfl
  clear hl hs
  go_enter Tryz.func24, Tryz.ntmps24
  go_wp2
  go_loopw [5, 10] (fun lv iv wr => CpRel w l lv iv wr) (fun _ iv _ => l.length - (intOf iv).toNat)
  case atStart => exact ⟨0, Nat.zero_le _, rfl, OwnN.nil _ _, Fr.refl _ _, .inl rfl⟩
  case round =>
    obtain ⟨k, hk, rfl, hown, hfr, hnew⟩ := hrel
    have hk62 : (k : Int) ≤ 1000000 := by omega
    by_cases hlt : k < l.length
    · obtain ⟨ad, v, rfl, _, hok, hg, hL, q0, q1, q2, q3, q4, q5, q6, q7, q8, q9⟩ := (HL.out.fr hfr (fun _ _ _ h => h)).at_ k hlt
      obtain ⟨B, d, rfl, hd1, hd2⟩ := hL.form
      have HTK : Hid (l.take (k + 1) = l.take k ++ [l[k]]) := List.take_succ_eq_append_getElem hlt
      have hlk : (l.take k).length = k := by rw [List.length_take]; omega
      have HLK := Lib.hid hlk
      have HC : Hid (∀ W, Fr No w W → Calls Tryz.prog 25 #[l[k].val (.slice B l[k].legs.length d)] W (OrdRet W l[k])) := fun W hW => copyO_any _ l[k] _ W (hL.no hW) (HS.out _ (List.getElem_mem hlt))
      have HOK : Hid (l[k].ok ∧ ∀ g ∈ l[k].legs, g.ok) := ⟨hok, hg⟩
      have HFR := Lib.hid hfr
      have HNW := Lib.hid hnew
      have HOWN := Lib.hid hown
      have HLT : Hid (k + 1 ≤ l.length) := hlt
      unfold OrdRet Od.val Od.cs at HC
      have HCS : Hid (∀ v, l[k].cs v = [.int .i64 l[k].cl, .int .i64 l[k].sq, .int .i64 l[k].kd, .string l[k].acct, .string l[k].peer, .int .i64 l[k].sum, v, .int .i64 l[k].per, .int .i64 l[k].hold, .string l[k].note]) := fun _ => rfl
      have HEP : Hid (∀ (wa w1 w2 w3 : World) (g g1 : Option Nat) (cells : List Value) (v : Value), Each (OdRF wr (New w.heap.size wr g)) 10 cells (l.take k) → (∀ k, g = some k → k < wr.heap.size) → w.heap.size ≤ wa.heap.size → Fr No wr wa → Fr No wa w1 → LgS w1 (New wa.heap.size w1 none) v l[k].legs → Fr No w1 w2 → Fr (AtO g) w2 w3 → (g1 = g ∨ g1 = some w2.heap.size) → Each (OdRF w3 (New w.heap.size w3 g1)) 10 (cells ++ l[k].cs v) (l.take k ++ [l[k]]))   := fun wa w1 w2 w3 g g1 cells v h0 hlt hB h1 h2 h3 h4 h5 h6 => eachN_put hB h0 hlt h1 h2 h3 h4 h5 h6 hok hg
      obtain ⟨cells, ho, hE⟩ := hown
      have HO := Lib.hid ho
      have HE := Lib.hid hE
      simp only [List.toArray] at HC
      generalize l[k].legs = L at *
      generalize l[k].cl = cl at *
      generalize l[k].sq = sq at *
      generalize l[k].kd = kd at *
      generalize l[k].acct = acct at *
      generalize l[k].peer = peer at *
      generalize l[k].sum = sum at *
      generalize l[k].per = per at *
      generalize l[k].hold = hold at *
      generalize l[k].note = note at *
      generalize l[k] = ok_ at *
      clear hok hg hL hE hlk ho hfr hnew
      go_wp2_with fail
      (with_reducible refine (HC.out _ (HFR.out.alloc _)).mono ?_)
      rintro e w1 ⟨A1, c1, rfl, hL1, hf1⟩
      have HL1 := Lib.hid hL1
      have HF1 := Lib.hid hf1
      have HSZ : Hid (w.heap.size ≤ wr.heap.size) := HFR.out.size
      clear hL1 hf1
      go_wp2_with (at_builtin; refine wpList_app _ rfl (.tmp 14) (.tmp 18) 22 22 rfl elO ((((HO.out.alloc _).fr HF1.out (fun _ _ h => h))).alloc _) rfl (Src.of_new (cs := #[.int .i64 cl, .int .i64 sq, .int .i64 kd, .string acct, .string peer, .int .i64 sum, .slice A1 L.length c1, .int .i64 per, .int .i64 hold, .string note]) (t := 39) w1.heap.size (heap_alloc_new w1 _) Tryz.underlying22 rfl (by simp [Value.oneCell'])) rfl (by rw [HLK.out]; simp only [maxLen]; omega) (by rw [HLK.out]; omega) ?_; intro v1 w3 hown3 hfr3 hnew3)
      go_roundw
      case rel =>
        refine ⟨k + 1, HLT.out, by go_num, ?_, ?_, ?_⟩
        · rw [HTK.out]
          refine ⟨_, by rw [List.length_append]; exact hown3, ?_⟩
          have h := HEP.out _ _ _ _ _ _ _ _ HE.out HO.out.lt (by rw [World.size_alloc]; have := HSZ.out; omega) ((Fr.refl _ _).alloc _) HF1.out HL1.out ((Fr.refl _ _).alloc _) hfr3 hnew3
          rw [HCS.out] at h
          exact h
        · refine (((HFR.out.alloc _).trans HF1.out).alloc _).trans' hfr3 fun i hi hlt => ?_
          have hi : _ = some i := hi
          have := newer_none HNW.out i hi
          omega
        · refine HNW.out.trans (Newer.of hnew3) ?_
          rw [World.size_alloc]
          have h1 := HF1.out.size
          rw [World.size_alloc] at h1
          have := HSZ.out
          omega
      case measure => have := HLT.out; simp [intOf]; omega
    · obtain rfl : k = l.length := by omega
      rw [List.take_length] at hown
      obtain ⟨A1, c1, rfl, h1, h2⟩ := hown.form
      go_wp2
      go_ret
      exact ⟨A1, c1, rfl, hown, hfr, fun j hj => newer_none hnew j hj⟩

/-! ### which orders a list lacks -/
def leftB (L : List Idk) (o : Od) : Bool := !(posF L o.id).isSome
/-- the closure: the map's variable at g, the map m -/
structure WoS (w : World) (g m : Nat) (L : List Idk) : Prop where
  cell : w.cell? ⟨g, 0, none⟩ = some (.map (some m))
  mp : IMp w m L
theorem WoS.no {w w' : World} {g m : Nat} {L : List Idk} (h : WoS w g m L) (hf : Fr No w w') : WoS w' g m L := ⟨hf.cell_some h.cell (fun h => h), h.mp.fr hf (fun h => h)⟩
abbrev woV (g : Nat) : Value := .func (.func 62) #[] #[.pointer (some ⟨g, 0, none⟩)]
set_option maxRecDepth 100000 in
theorem without_any (w0 w : World) (F : Nat → Prop) (A : Option Addr) (c : Nat) (l : List Od) (hl : OdsS w0 w F A l) (hn : l.length ≤ 1000000) :
    Calls Tryz.prog 41 #[.slice A l.length c] w fun e w' => ∃ g m, e = .returned (woV g) ∧ WoS w' g m (idsO l) ∧ Fr No w w' := by
  have HP : Hid (∀ W, Fr No w W → _) := fun W hW => positions_any w0 W F A c l (hl.fr hW (fun _ _ _ h => h)) hn
  clear hl hn
  go_enter Tryz.func41, Tryz.ntmps41
  go_wp2_with fail
  (with_reducible refine (HP.out _ (Fr.refl _ _)).mono ?_)
  rintro e w1 ⟨m, rfl, hm, hf, -⟩
  have HM := Lib.hid hm
  have HF := Lib.hid hf
  clear hm hf
  go_wp2
  go_ret
  refine ⟨_, m, rfl, ⟨?_, ?_⟩, HF.out.alloc _⟩
  · exact (Blk.new w1 _ _).cell 0
  · exact HM.out.fr ((Fr.refl No _).alloc _) (fun h => h)
set_option maxRecDepth 100000 in
theorem left_any (o : Od) (v : Value) (g m : Nat) (L : List Idk) (w : World) (h : WoS w g m L) (hok : IdOk o.id) (hv : ∃ A n c, v = .slice A n c) :
    Calls Tryz.prog 62 #[o.val v, .pointer (some ⟨g, 0, none⟩)] w fun e w' => e = .returned (.bool (leftB L o)) ∧ Fr No w w' := by
  obtain ⟨vA, vn, vc, rfl⟩ := hv
  have c0 : ∀ W, Fr No w W → W.cell? ⟨g, 0, none⟩ = some (.map (some m)) := fun W hW => hW.cell_some h.cell (fun h => h)
  have hlk : ∀ W, Fr No w W → _ := fun W hW => (h.mp.fr hW (fun h => h)).look o.id hok
  unfold leftB
  obtain ⟨ocl, osq, okd, oac, ope, osm, olg, opr, ohd, ont⟩ := o
  unfold Od.val Od.cs Od.id at *
  simp only at hlk ⊢
  generalize (posF L (ocl, osq)).isSome = res at *
  generalize posO (posF L (ocl, osq)) = ps at *
  have c1 := c0 _ ((Fr.refl _ w).alloc (.cells #[.int .i64 ocl, .int .i64 osq, .int .i64 okd, .string oac, .string ope, .int .i64 osm, .slice vA vn vc, .int .i64 opr, .int .i64 ohd, .string ont] 39))
  have k1 := hlk _ ((Fr.refl _ w).alloc (.cells #[.int .i64 ocl, .int .i64 osq, .int .i64 okd, .string oac, .string ope, .int .i64 osm, .slice vA vn vc, .int .i64 opr, .int .i64 ohd, .string ont] 39))
  clear h hok c0 hlk
  go_enter Tryz.func62, Tryz.ntmps62
  go_wp2
  go_ret
  exact ⟨rfl, (Fr.refl _ _).alloc _⟩
end Go.Proofs.YtkkhdjchfhmliaaGreat

namespace Go.Proofs.YtkkhdjchfhmliaaGreat
open Go.RowKit Go.My Go.Maps Go.WideMaps
set_option linter.unusedSimpArgs false
set_option linter.unusedVariables false
attribute [local go_sem ↓] Go.wp_at_zero Go.wp_at_succ

def KpRel (w : World) (q : Od → Bool) (l : List Od) (lv iv : Value) (wr : World) : Prop := ∃ k : Nat, k ≤ l.length ∧ iv = .int .i64 k ∧ OwnN w.heap.size wr lv ((l.take k).filter q) ∧ Fr No w wr ∧ Newer w.heap.size none lv.ownBlock
end Go.Proofs.YtkkhdjchfhmliaaGreat
