/- clash.Clash. Replies, as they are in lists. Lists of orders in memory; replies in rows. clash.positions: where each order of a list stands. clash.Right: no Id twice. Legs as cells. Copies of orders: slices.Clone of legs, copies.Order, copies.All. Contracts of package order: Same. -/
import Derived.Test.YtnphncemghfkbaaGreatQ05
import Derived.Test.YtnphncemghfkbaaGreatQ01
import Derived.Test.YtnphncemghfkbaaGreatQ02
import Derived.Test.YtnphncemghfkbaaGreatQ04
import Derived.Deep.QuietTactic
import Derived.BigQuiet
namespace Go.Proofs.YtnphncemghfkbaaGreat
open Go.RowKit Go.My Go.Maps
set_option linter.unusedSimpArgs false
set_option linter.unusedVariables false
attribute [local go_sem ↓] Go.wp_at_zero Go.wp_at_succ

theorem touch_len (o : Od) : (touchL o).length ≤ 2 + o.legs.length := by
  unfold touchL
  refine Nat.le_trans (upOf_length _) ?_
  unfold namesO
  refine Nat.le_trans (List.length_filter_le _ _) ?_
  rw [allN_length o _ (Nat.le_refl _)]
  exact Nat.le_refl _
def MarkRet (w : World) (f : Value → Value) (T : List (List UInt8)) (e : Ending) (w' : World) : Prop := ∃ A c, e = .returned (f (.slice A T.length c)) ∧ Own w' 9 1 (.slice A T.length c) T.length (ts T) ∧ T.length ≤ c ∧ c ≤ maxLen ∧ Fr No w w' ∧ ∀ k, (Value.slice A T.length c).ownBlock = some k → w.heap.size ≤ k
set_option maxRecDepth 100000 in
set_option maxHeartbeats 2000000 in
theorem clash_any (F G : Nat → Prop) (a b : Od) (va vb : Value) (w : World) (ha : LgS w F va a.legs) (hb : LgS w G vb b.legs) (h1 : a.legs.length ≤ 100000) (h2 : b.legs.length ≤ 100000) :
    Calls Tryz.prog 26 #[a.val va, b.val vb] w fun e w' => e = .returned (.bool (clashB a b)) ∧ Fr No w w' := by
  have HTA : Hid ((touchL a).length ≤ 1000000) := by show _ ≤ _; have := touch_len a; omega
  have HTB : Hid ((touchL b).length ≤ 1000000) := by show _ ≤ _; have := touch_len b; omega
  have HMA : Hid (∀ W, Fr No w W → Calls Tryz.prog 59 #[a.val va] W (MarkRet W (mkd a va) (touchL a))) := fun W hW => mark_any F a va W (ha.no hW) h1
  have HMB : Hid (∀ W, Fr No w W → Calls Tryz.prog 59 #[b.val vb] W (MarkRet W (mkd b vb) (touchL b))) := fun W hW => mark_any G b vb W (hb.no hW) h2
  have HCL : Hid (∀ W A B c d, Own W 9 1 (.slice A (touchL a).length c) (touchL a).length (ts (touchL a)) → Own W 9 1 (.slice B (touchL b).length d) (touchL b).length (ts (touchL b)) → Calls Tryz.prog 60 #[mkd a va (.slice A (touchL a).length c), mkd b vb (.slice B (touchL b).length d)] W fun e w' => e = .returned (.bool (clashB a b)) ∧ Fr No W w') := fun W A B c d q1 q2 => clashes_any _ _ a b va vb A B c d (touchL a) (touchL b) W q1.rd q2.rd HTA.out HTB.out
  obtain ⟨vA, ca, rfl, -, -⟩ := ha.form
  obtain ⟨vB, cb, rfl, -, -⟩ := hb.form
  generalize clashB a b = res at *
  generalize mkd a (.slice vA a.legs.length ca) = fa at *
  generalize mkd b (.slice vB b.legs.length cb) = fb at *
  generalize touchL a = TA at *
  generalize touchL b = TB at *
  clear ha hb h1 h2
  generalize a.legs.length = na at *
  generalize b.legs.length = nb at *
  obtain ⟨acl, asq, akd, aac, ape, asm, alg, apr, ahd, ant⟩ := a
  obtain ⟨bcl, bsq, bkd, bac, bpe, bsm, blg, bpr, bhd, bnt⟩ := b
  unfold Od.val Od.cs at *
  simp only at HMA HMB ⊢
  have hba := (Blk.new w 47 #[.int .i64 acl, .int .i64 asq, .int .i64 akd, .string aac, .string ape, .int .i64 asm, .slice vA na ca, .int .i64 apr, .int .i64 ahd, .string ant]).alloc (.cells #[.int .i64 bcl, .int .i64 bsq, .int .i64 bkd, .string bac, .string bpe, .int .i64 bsm, .slice vB nb cb, .int .i64 bpr, .int .i64 bhd, .string bnt] 47)
  have hbb := Blk.new (w.alloc (.cells #[.int .i64 acl, .int .i64 asq, .int .i64 akd, .string aac, .string ape, .int .i64 asm, .slice vA na ca, .int .i64 apr, .int .i64 ahd, .string ant] 47)) 47 #[.int .i64 bcl, .int .i64 bsq, .int .i64 bkd, .string bac, .string bpe, .int .i64 bsm, .slice vB nb cb, .int .i64 bpr, .int .i64 bhd, .string bnt]
  rw [World.size_alloc] at hbb
  have HF1 : Hid (Fr No w ((w.alloc (.cells #[.int .i64 acl, .int .i64 asq, .int .i64 akd, .string aac, .string ape, .int .i64 asm, .slice vA na ca, .int .i64 apr, .int .i64 ahd, .string ant] 47)).alloc (.cells #[.int .i64 bcl, .int .i64 bsq, .int .i64 bkd, .string bac, .string bpe, .int .i64 bsm, .slice vB nb cb, .int .i64 bpr, .int .i64 bhd, .string bnt] 47))) := ((Fr.refl _ _).alloc _).alloc _
  go_enter Tryz.func26, Tryz.ntmps26
  go_upto_region 1 with (fail)
  generalize (w.alloc (.cells #[.int .i64 acl, .int .i64 asq, .int .i64 akd, .string aac, .string ape, .int .i64 asm, .slice vA na ca, .int .i64 apr, .int .i64 ahd, .string ant] 47)).alloc (.cells #[.int .i64 bcl, .int .i64 bsq, .int .i64 bkd, .string bac, .string bpe, .int .i64 bsm, .slice vB nb cb, .int .i64 bpr, .int .i64 bhd, .string bnt] 47) = w2 at *
  have HX : Hid (∀ W, Fr No w2 W → Fr No w2 W ∧ W.cell? ⟨w.heap.size, 0, none⟩ = some (.int .i64 acl) ∧ W.cell? ⟨w.heap.size, 1, none⟩ = some (.int .i64 asq) ∧ W.cell? ⟨w.heap.size, 2, none⟩ = some (.int .i64 akd) ∧ W.cell? ⟨w.heap.size, 3, none⟩ = some (.string aac) ∧ W.cell? ⟨w.heap.size, 4, none⟩ = some (.string ape) ∧ W.cell? ⟨w.heap.size, 5, none⟩ = some (.int .i64 asm) ∧ W.cell? ⟨w.heap.size, 6, none⟩ = some (.slice vA na ca) ∧ W.cell? ⟨w.heap.size, 7, none⟩ = some (.int .i64 apr) ∧ W.cell? ⟨w.heap.size, 8, none⟩ = some (.int .i64 ahd) ∧ W.cell? ⟨w.heap.size, 9, none⟩ = some (.string ant) ∧ W.cell? ⟨w.heap.size + 1, 0, none⟩ = some (.int .i64 bcl) ∧ W.cell? ⟨w.heap.size + 1, 1, none⟩ = some (.int .i64 bsq) ∧ W.cell? ⟨w.heap.size + 1, 2, none⟩ = some (.int .i64 bkd) ∧ W.cell? ⟨w.heap.size + 1, 3, none⟩ = some (.string bac) ∧ W.cell? ⟨w.heap.size + 1, 4, none⟩ = some (.string bpe) ∧ W.cell? ⟨w.heap.size + 1, 5, none⟩ = some (.int .i64 bsm) ∧ W.cell? ⟨w.heap.size + 1, 6, none⟩ = some (.slice vB nb cb) ∧ W.cell? ⟨w.heap.size + 1, 7, none⟩ = some (.int .i64 bpr) ∧ W.cell? ⟨w.heap.size + 1, 8, none⟩ = some (.int .i64 bhd) ∧ W.cell? ⟨w.heap.size + 1, 9, none⟩ = some (.string bnt)) := fun W hW => by
    have h1 := hba.fr hW (fun h => h)
    have h2 := hbb.fr hW (fun h => h)
    exact ⟨hW, h1.cell 0, h1.cell 1, h1.cell 2, h1.cell 3, h1.cell 4, h1.cell 5, h1.cell 6, h1.cell 7, h1.cell 8, h1.cell 9, h2.cell 0, h2.cell 1, h2.cell 2, h2.cell 3, h2.cell 4, h2.cell 5, h2.cell 6, h2.cell 7, h2.cell 8, h2.cell 9⟩
  have hk0 : Fr No w2 w2.drew := (Fr.refl _ w2).drew
  clear hba hbb
  go_region_held3 (fun W => Fr No w2 W ∧ W.cell? ⟨w.heap.size, 0, none⟩ = some (.int .i64 acl) ∧ W.cell? ⟨w.heap.size, 1, none⟩ = some (.int .i64 asq) ∧ W.cell? ⟨w.heap.size, 2, none⟩ = some (.int .i64 akd) ∧ W.cell? ⟨w.heap.size, 3, none⟩ = some (.string aac) ∧ W.cell? ⟨w.heap.size, 4, none⟩ = some (.string ape) ∧ W.cell? ⟨w.heap.size, 5, none⟩ = some (.int .i64 asm) ∧ W.cell? ⟨w.heap.size, 6, none⟩ = some (.slice vA na ca) ∧ W.cell? ⟨w.heap.size, 7, none⟩ = some (.int .i64 apr) ∧ W.cell? ⟨w.heap.size, 8, none⟩ = some (.int .i64 ahd) ∧ W.cell? ⟨w.heap.size, 9, none⟩ = some (.string ant) ∧ W.cell? ⟨w.heap.size + 1, 0, none⟩ = some (.int .i64 bcl) ∧ W.cell? ⟨w.heap.size + 1, 1, none⟩ = some (.int .i64 bsq) ∧ W.cell? ⟨w.heap.size + 1, 2, none⟩ = some (.int .i64 bkd) ∧ W.cell? ⟨w.heap.size + 1, 3, none⟩ = some (.string bac) ∧ W.cell? ⟨w.heap.size + 1, 4, none⟩ = some (.string bpe) ∧ W.cell? ⟨w.heap.size + 1, 5, none⟩ = some (.int .i64 bsm) ∧ W.cell? ⟨w.heap.size + 1, 6, none⟩ = some (.slice vB nb cb) ∧ W.cell? ⟨w.heap.size + 1, 7, none⟩ = some (.int .i64 bpr) ∧ W.cell? ⟨w.heap.size + 1, 8, none⟩ = some (.int .i64 bhd) ∧ W.cell? ⟨w.heap.size + 1, 9, none⟩ = some (.string bnt))
    (first
      | (with_reducible refine HX.out _ ?_; with_reducible assumption)
      | (with_reducible refine HX.out _ (Fr.drew ?_); with_reducible first | assumption | exact Fr.refl _ w2))
    (first
      | (go_at_call 59; (with_reducible refine (HMA.out _ HF1.out.drew).mono ?_); rintro e q1 ⟨A1, c1, rfl, ho1, hl1, hm1, hg1, hn1⟩; have ka1 : Fr No w2 q1 := hk0.trans hg1)
      | (go_at_call 59; (with_reducible refine (HMB.out _ (HF1.out.trans ka1)).mono ?_); rintro e q2 ⟨A2, c2, rfl, ho2, hl2, hm2, hg2, hn2⟩; have ka2 : Fr No w2 q2 := ka1.trans hg2; have ho12 := ho1.fr hg2 (fun _ _ h => h))
      | (go_at_call 60; (with_reducible refine (HCL.out _ _ _ _ _ ho12 ho2).mono ?_); rintro e q3 ⟨rfl, hg3⟩; have ka3 : Fr No w2 q3 := ka2.trans hg3))
  go_wp2
  go_ret
  exact ⟨rfl, HF1.out.trans ka3⟩
end Go.Proofs.YtnphncemghfkbaaGreat

namespace Go.Proofs.YtnphncemghfkbaaGreat
open Go.RowKit Go.My Go.Maps
set_option linter.unusedSimpArgs false
set_option linter.unusedVariables false
/-- a reply -/
structure Rp where
  err : Int
  hv : Int
  st : Int
  num : Int
instance : DecidableEq Rp := fun a b =>
  if h : a.err = b.err ∧ a.hv = b.hv ∧ a.st = b.st ∧ a.num = b.num then isTrue (by cases a; cases b; simp_all) else isFalse (fun e => h (by subst e; exact ⟨rfl, rfl, rfl, rfl⟩))
def Rp.ok (r : Rp) : Prop := In64 r.err ∧ In64 r.hv ∧ In64 r.st ∧ In64 r.num
def Rp.val (r : Rp) : Value := .agg #[.int .i64 r.err, .int .i64 r.hv, .int .i64 r.st, .int .i64 r.num]
end Go.Proofs.YtnphncemghfkbaaGreat

namespace Go.Proofs.YtnphncemghfkbaaGreat
open Go.RowKit Go.My Go.Maps
set_option linter.unusedSimpArgs false
set_option linter.unusedVariables false

/-- an order's cells; its legs lie in memory as they came in with the world w0 -/
def OdR (w0 : World) (cs : List Value) (o : Od) : Prop := ∃ v, cs = o.cs v ∧ o.ok ∧ (∀ g ∈ o.legs, g.ok) ∧ LgS w0 (Lt w0.heap.size) v o.legs
/-- orders in a slice -/
def OdsS (w0 w : World) (F : Nat → Prop) (A : Option Addr) (l : List Od) : Prop := ∃ cells, Rd w F 10 A l.length cells ∧ Each (OdR w0) 10 cells l
section
variable {w0 w w' : World} {F G : Nat → Prop} {A : Option Addr} {l : List Od}
theorem OdsS.fr {S : Nat → Prop} (h : OdsS w0 w F A l) (hf : Fr S w w') (hn : ∀ k, F k → k < w.heap.size → ¬ S k) : OdsS w0 w' F A l := by
  obtain ⟨cells, hr, hE⟩ := h
  exact ⟨cells, hr.fr (by omega) hf hn, hE⟩
theorem OdsS.more (h : OdsS w0 w F A l) (hB : ∀ k, F k → G k) : OdsS w0 w G A l := by
  obtain ⟨cells, hr, hE⟩ := h
  exact ⟨cells, hr.more hB, hE⟩
theorem OdsS.below {B : Nat} (h : OdsS w0 w F A l) (hb : Below B w w') (hF : ∀ k, F k → k < B) : OdsS w0 w' F A l := by
  obtain ⟨cells, hr, hE⟩ := h
  exact ⟨cells, hr.below hb hF, hE⟩
theorem OdsS.ok (h : OdsS w0 w F A l) : ∀ o ∈ l, o.ok := fun o ho => by
  obtain ⟨cells, hr, hE⟩ := h
  obtain ⟨i, hi, rfl⟩ := List.getElem_of_mem ho
  obtain ⟨v, _, h1, _⟩ := hE.2 i _ (List.getElem?_eq_getElem hi)
  exact h1
/-- the order at k -/
theorem OdsS.at_ (h : OdsS w0 w F A l) (k : Nat) (hk : k < l.length) :
    ∃ ad v, A = some ad ∧ F ad.block ∧ l[k].ok ∧ (∀ g ∈ l[k].legs, g.ok) ∧ LgS w0 (Lt w0.heap.size) v l[k].legs ∧ w.cell? (ad.add (k * 10)) = some (.int .i64 l[k].cl) ∧ w.cell? ⟨(ad.add (k * 10)).block, (ad.add (k * 10)).off + 1, none⟩ = some (.int .i64 l[k].sq) ∧
      w.cell? ⟨(ad.add (k * 10)).block, (ad.add (k * 10)).off + 2, none⟩ = some (.int .i64 l[k].kd) ∧ w.cell? ⟨(ad.add (k * 10)).block, (ad.add (k * 10)).off + 3, none⟩ = some (.string l[k].acct) ∧
      w.cell? ⟨(ad.add (k * 10)).block, (ad.add (k * 10)).off + 4, none⟩ = some (.string l[k].peer) ∧ w.cell? ⟨(ad.add (k * 10)).block, (ad.add (k * 10)).off + 5, none⟩ = some (.int .i64 l[k].sum) ∧
      w.cell? ⟨(ad.add (k * 10)).block, (ad.add (k * 10)).off + 6, none⟩ = some v ∧ w.cell? ⟨(ad.add (k * 10)).block, (ad.add (k * 10)).off + 7, none⟩ = some (.int .i64 l[k].per) ∧
      w.cell? ⟨(ad.add (k * 10)).block, (ad.add (k * 10)).off + 8, none⟩ = some (.int .i64 l[k].hold) ∧ w.cell? ⟨(ad.add (k * 10)).block, (ad.add (k * 10)).off + 9, none⟩ = some (.string l[k].note) := by
  obtain ⟨cells, hr, hE⟩ := h
  obtain ⟨ad, rfl, hF, hc⟩ := hr.2 (by omega)
  obtain ⟨v, hcs, hok, hg, hL⟩ := hE.2 k l[k] (List.getElem?_eq_getElem hk)
  have hget : ∀ i, i < 10 → cells[k * 10 + i]? = (l[k].cs v)[i]? := fun i hi => by
    rw [← hcs, List.getElem?_take, if_pos hi, List.getElem?_drop]
  refine ⟨ad, v, rfl, hF, hok, hg, hL, hc (k * 10) _ (by have := hget 0 (by omega); rw [Nat.add_zero] at this; rw [this]; rfl), ?_, ?_, ?_, ?_, ?_, ?_, ?_, ?_, ?_⟩
  · rw [← add_lits ad (k * 10) 1 (by omega)]
    exact hc _ _ (by rw [hget 1 (by omega)]; rfl)
  · rw [← add_lits ad (k * 10) 2 (by omega)]
    exact hc _ _ (by rw [hget 2 (by omega)]; rfl)
  · rw [← add_lits ad (k * 10) 3 (by omega)]
    exact hc _ _ (by rw [hget 3 (by omega)]; rfl)
  · rw [← add_lits ad (k * 10) 4 (by omega)]
    exact hc _ _ (by rw [hget 4 (by omega)]; rfl)
  · rw [← add_lits ad (k * 10) 5 (by omega)]
    exact hc _ _ (by rw [hget 5 (by omega)]; rfl)
  · rw [← add_lits ad (k * 10) 6 (by omega)]
    exact hc _ _ (by rw [hget 6 (by omega)]; rfl)
  · rw [← add_lits ad (k * 10) 7 (by omega)]
    exact hc _ _ (by rw [hget 7 (by omega)]; rfl)
  · rw [← add_lits ad (k * 10) 8 (by omega)]
    exact hc _ _ (by rw [hget 8 (by omega)]; rfl)
  · rw [← add_lits ad (k * 10) 9 (by omega)]
    exact hc _ _ (by rw [hget 9 (by omega)]; rfl)
/-- legs stay as they came in -/
theorem LgS.keep0 {v : Value} {L : List Lg} (h : LgS w0 (Lt w0.heap.size) v L) (hb : Below w0.heap.size w0 w) : LgS w (Lt w0.heap.size) v L := h.below hb
/-- a row of orders -/
theorem Each.nilO (w0 : World) : Each (OdR w0) 10 [] [] := ⟨rfl, fun i x hx => by simp at hx⟩
theorem Each.snocO {w0 : World} {cells cs : List Value} {l : List Od} (h : Each (OdR w0) 10 cells l) {o : Od} (hl : cs.length = 10) (ho : OdR w0 cs o) : Each (OdR w0) 10 (cells ++ cs) (l ++ [o]) := by
  refine ⟨by rw [List.length_append, hl, h.1, List.length_append]; simp; omega, fun i x hx => ?_⟩
  by_cases hi : i < l.length
  · rw [List.getElem?_append_left hi] at hx
    have h1 := h.2 i x hx
    have h2 : i * 10 + 10 ≤ cells.length := by rw [h.1]; omega
    rw [List.drop_append_of_le_length (by omega), List.take_append_of_le_length (by rw [List.length_drop]; omega)]
    exact h1
  · rw [List.getElem?_append_right (by omega)] at hx
    have hi0 : i - l.length = 0 := by
      rcases Nat.eq_zero_or_pos (i - l.length) with h0 | h0
      · exact h0
      · rw [List.getElem?_eq_none (by simp; omega)] at hx; cases hx
    rw [hi0] at hx
    simp only [List.getElem?_cons_zero, Option.some.injEq] at hx
    subst hx
    have : i = l.length := by omega
    subst this
    rw [← h.1, List.drop_left, List.take_of_length_le (by omega)]
    exact ho
end
theorem elO : El Tryz.prog 22 47 10 120 := ⟨Tryz.underlying22, by
  have h : (Tryz.prog.info? 47).map (fun i => (i.zero, i.size, i.bytes)) = some (some (.agg #[.int .i64 0, .int .i64 0, .int .i64 0, .string ⟨#[]⟩, .string ⟨#[]⟩, .int .i64 0, .slice none 0 0, .int .i64 0, .int .i64 0, .string ⟨#[]⟩]), 10, 120) := by kernel_rfl
  obtain ⟨i, hi, hz, hs, hb⟩ := info_parts h
  exact ⟨i, _, hi, hz, hs, hb, rfl⟩, by omega⟩
/-- replies as cells -/
def rpC (r : Rp) : List Value := [.int .i64 r.err, .int .i64 r.hv, .int .i64 r.st, .int .i64 r.num]
def rps (l : List Rp) : List Value := l.flatMap rpC
theorem rps_append (l m : List Rp) : rps (l ++ m) = rps l ++ rps m := by unfold rps; rw [List.flatMap_append]
theorem rps_one (r : Rp) : rps [r] = rpC r := by simp [rps]
theorem rps_length (l : List Rp) : (rps l).length = l.length * 4 := by
  induction l with
  | nil => rfl
  | cons a r ih => show (rpC a ++ rps r).length = _; rw [List.length_append, ih, List.length_cons]; simp [rpC]; omega
theorem rps_get (l : List Rp) : ∀ (k i : Nat) (hk : k < l.length), i < 4 → (rps l)[k * 4 + i]? = (rpC l[k])[i]? := by
  induction l with
  | nil => intro k i hk; simp at hk
  | cons a r ih =>
    intro k i hk hi
    show (rpC a ++ rps r)[k * 4 + i]? = _
    have ha : (rpC a).length = 4 := rfl
    cases k with
    | zero =>
      rw [Nat.zero_mul, Nat.zero_add, List.getElem?_append_left (by omega)]
      rfl
    | succ k =>
      rw [List.getElem?_append_right (by omega)]
      have : (k + 1) * 4 + i - (rpC a).length = k * 4 + i := by omega
      rw [this, ih k i (by simpa using hk) hi]
      rfl
/-- a reply in memory -/
theorem rp_at {w : World} {F : Nat → Prop} {A : Option Addr} {S : List Rp} (h : Rd w F 4 A S.length (rps S)) (k : Nat) (hk : k < S.length) :
    ∃ ad, A = some ad ∧ F ad.block ∧ w.cell? (ad.add (k * 4)) = some (.int .i64 S[k].err) ∧ w.cell? ⟨(ad.add (k * 4)).block, (ad.add (k * 4)).off + 1, none⟩ = some (.int .i64 S[k].hv) ∧
      w.cell? ⟨(ad.add (k * 4)).block, (ad.add (k * 4)).off + 2, none⟩ = some (.int .i64 S[k].st) ∧ w.cell? ⟨(ad.add (k * 4)).block, (ad.add (k * 4)).off + 3, none⟩ = some (.int .i64 S[k].num) := by
  obtain ⟨ad, rfl, hF, hc⟩ := h.2 (by omega)
  refine ⟨ad, rfl, hF, hc (k * 4) _ (by have := rps_get S k 0 hk (by omega); rw [Nat.add_zero] at this; rw [this]; rfl), ?_, ?_, ?_⟩
  · rw [← add_lits ad (k * 4) 1 (by omega)]
    exact hc _ _ (by rw [rps_get S k 1 hk (by omega)]; rfl)
  · rw [← add_lits ad (k * 4) 2 (by omega)]
    exact hc _ _ (by rw [rps_get S k 2 hk (by omega)]; rfl)
  · rw [← add_lits ad (k * 4) 3 (by omega)]
    exact hc _ _ (by rw [rps_get S k 3 hk (by omega)]; rfl)
section
open Go.ChangeShapes Go.WideShapes
variable {H : Type} {enc : TypeId × Value → H} {w : World} {base : Nat} {spare : Nat → Bool} {held : Bool}
/-- orders that came in -/
theorem open_ods {fuel : Nat} {cs : List Value} {x : DataW H × List MemPlace} (h : DataW.trod enc Tryz.prog w base spare held fuel 22 cs = some x) :
    ∃ (A : Option Addr) (c : Nat) (l : List Od), cs = [.slice A l.length c] ∧ OdsS w w (Lt w.heap.size) A l ∧ l.length ≤ c ∧ c ≤ maxLen := by
  obtain ⟨A, c, cells, l, h1, h2, h3, h4, h5⟩ := open_each (OdR w) Tryz.underlying22 (size := 10) (by kernel_rfl) (by omega) (fun n cs x hx => by
    obtain ⟨o, v, h1, h2, h3, h4⟩ := open_od hx
    exact ⟨o, v, h1, h2, h3, h4⟩) h
  exact ⟨A, c, l, h1, ⟨cells, h2, h5⟩, h3, h4⟩
end
end Go.Proofs.YtnphncemghfkbaaGreat

namespace Go.Proofs.YtnphncemghfkbaaGreat
open Go.RowKit Go.My Go.Maps Go.WideMaps
set_option linter.unusedSimpArgs false
set_option linter.unusedVariables false
attribute [local go_sem ↓] Go.wp_at_zero Go.wp_at_succ

def PoRel (w : World) (m : Nat) (l : List Od) (iv : Value) (wr : World) : Prop := ∃ k : Nat, k ≤ l.length ∧ iv = .int .i64 k ∧ IMp wr m (idsO (l.take k)) ∧ Fr No w wr
set_option maxRecDepth 100000 in
set_option maxHeartbeats 1000000 in
theorem positions_any (w0 w : World) (F : Nat → Prop) (A : Option Addr) (c : Nat) (l : List Od) (hl : OdsS w0 w F A l) (hn : l.length ≤ 1000000) :
    Calls Tryz.prog 61 #[.slice A l.length c] w fun e w' => ∃ m, e = .returned (.map (some m)) ∧ IMp w' m (idsO l) ∧ Fr No w w' ∧ w.heap.size ≤ m := by
  have HL := Lib.hid hl
  have hmm := @run_makeMap Tryz.prog
  have h0 : IMp (w.alloc (.map #[] 0)) w.heap.size (idsO (l.take 0)) := ⟨⟨_, World.ownsMap_made _ _ _ _, RepI.nil⟩⟩
  have HI0 := Lib.hid h0
  have HF0 : Hid (Fr No w (w.alloc (.map #[] 0))) := (Fr.refl _ _).alloc _
  clear hl h0
  go_enter Tryz.func61, Tryz.ntmps61
  go_wp2
  go_loopw [9] (fun iv wr => PoRel w w.heap.size l iv wr) (fun iv _ => l.length - (intOf iv).toNat)
  case atStart => exact ⟨0, Nat.zero_le _, rfl, HI0.out, HF0.out⟩
  case round =>
    obtain ⟨k, hk, rfl, hm, hfr⟩ := hrel
    have hk62 : (k : Int) ≤ 1000000 := by omega
    by_cases hlt : k < l.length
    · obtain ⟨ad, v, rfl, _, hok, hg, hL, q0, q1, q2, q3, q4, q5, q6, q7, q8, q9⟩ := (HL.out.fr hfr (fun _ _ _ h => h)).at_ k hlt
      obtain ⟨B, d, rfl, hd1, hd2⟩ := hL.form
      have hids := idsO_take l hlt
      have hlen : (idsO (l.take k)).length = k := by unfold idsO; rw [List.length_map, List.length_take]; omega
      have HOK : Hid (IdOk l[k].id) := ⟨hok.1, hok.2.1⟩
      have HM := Lib.hid hm
      have HFR := Lib.hid hfr
      have HIDS := Lib.hid hids
      have hml := hm.lt
      generalize l[k] = o at *
      clear hok hg hL hm hfr hids
      generalize idsO (l.take k) = L at *
      go_wp2_with (at_mapUpdate; refine wpList_putI _ rfl (.tmp 14) (.tmp 16) (.tmp 17) rfl rfl (HM.out.fr ((Fr.refl No _).alloc _) (fun h => h)) o.id rfl (by rw [hlen]; rfl) HOK.out (by rw [hlen]; simp only [maxLen]; omega) (by rw [hlen]; unfold In64; omega) ?_; intro w3 hm3 hf3)
      go_roundw
      case rel =>
        refine ⟨k + 1, by omega, by go_num, by rw [HIDS.out]; exact hm3, ?_⟩
        exact (HFR.out.alloc _).trans' hf3 (fun i hi hlt2 => by have : i = w.heap.size := hi; omega)
      case measure => simp [intOf]; omega
    · obtain rfl : k = l.length := by omega
      rw [List.take_length] at hm
      go_wp2
      go_ret
      exact ⟨_, rfl, hm, hfr, Nat.le_refl _⟩
end Go.Proofs.YtnphncemghfkbaaGreat

namespace Go.Proofs.YtnphncemghfkbaaGreat
open Go.RowKit Go.My Go.Maps Go.WideMaps
set_option linter.unusedSimpArgs false
set_option linter.unusedVariables false
attribute [local go_sem ↓] Go.wp_at_zero Go.wp_at_succ

theorem IMp.len_ {w : World} {m : Nat} {L : List Idk} (h : IMp w m L) (ty : TypeId) : (Builtin.len_ #[87] ty #[.map (some m)]).run Tryz.prog w = .ok (.int .i64 (keysF L).length) w := by
  obtain ⟨D, hD, hR⟩ := h.own
  have := hD.len Tryz.underlying87 ty
  rw [hR.size] at this
  exact this
theorem right_eq (l : List Od) : decide (((keysF (idsO l)).length : Int) = (l.length : Int)) = rightL l := by
  unfold rightL
  apply decide_eq_decide.2
  rw [← len_keysF_iff]
  unfold idsO
  rw [List.length_map]
  omega
set_option maxRecDepth 100000 in
theorem rightC_any (w0 w : World) (F : Nat → Prop) (A : Option Addr) (c : Nat) (l : List Od) (hl : OdsS w0 w F A l) (hn : l.length ≤ 1000000) :
    Calls Tryz.prog 29 #[.slice A l.length c] w fun e w' => e = .returned (.bool (rightL l)) ∧ Fr No w w' := by
  have HP := Lib.hid (positions_any w0 w F A c l hl hn)
  have HE := Lib.hid (right_eq l)
  clear hl hn
  go_enter Tryz.func29, Tryz.ntmps29
  go_wp2_with fail
  (with_reducible refine HP.out.mono ?_)
  rintro e w1 ⟨m, rfl, hm, hf, -⟩
  have hlen := fun ty => hm.len_ ty
  generalize (keysF (idsO l)).length = kn at *
  go_wp2
  go_ret
  exact ⟨by rw [← HE.out]; rfl, hf⟩
end Go.Proofs.YtnphncemghfkbaaGreat

namespace Go.Proofs.YtnphncemghfkbaaGreat
open Go.RowKit Go.My Go.Maps
set_option linter.unusedSimpArgs false
set_option linter.unusedVariables false

theorem elL : El Tryz.prog 45 92 2 24 := ⟨Tryz.underlying45, by
  have h : (Tryz.prog.info? 92).map (fun i => (i.zero, i.size, i.bytes)) = some (some (.agg #[.string ⟨#[]⟩, .int .i64 0]), 2, 24) := by kernel_rfl
  obtain ⟨i, hi, hz, hs, hb⟩ := info_parts h
  exact ⟨i, _, hi, hz, hs, hb, rfl⟩, by omega⟩
/-- a leg's cells -/
def lgC (g : Lg) : List Value := [.string g.acct, .int .i64 g.sum]
def lgs (L : List Lg) : List Value := L.flatMap lgC
theorem lgs_length (L : List Lg) : (lgs L).length = L.length * 2 := by
  induction L with
  | nil => rfl
  | cons g r ih => show (lgC g ++ lgs r).length = _; rw [List.length_append, ih]; simp [lgC]; omega
theorem lgs_append (L R : List Lg) : lgs (L ++ R) = lgs L ++ lgs R := by unfold lgs; rw [List.flatMap_append]
theorem lgs_ones (L : List Lg) : ∀ y ∈ lgs L, y.oneCell' = true := by
  intro y hy
  unfold lgs at hy
  rw [List.mem_flatMap] at hy
  obtain ⟨a, _, ha⟩ := hy
  simp only [lgC, List.mem_cons, List.not_mem_nil, or_false] at ha
  rcases ha with rfl | rfl <;> rfl
theorem lgs_each : ∀ L : List Lg, (∀ g ∈ L, g.ok) → Each RdLg 2 (lgs L) L
  | [], _ => ⟨rfl, fun i x hx => by simp at hx⟩
  | g :: r, h => by
    obtain ⟨h1, h2⟩ := lgs_each r fun x hx => h x (List.mem_cons_of_mem _ hx)
    refine ⟨lgs_length _, fun i x hx => ?_⟩
    cases i with
    | zero =>
      simp only [List.getElem?_cons_zero, Option.some.injEq] at hx
      subst hx
      exact ⟨rfl, h g List.mem_cons_self⟩
    | succ i =>
      rw [List.getElem?_cons_succ] at hx
      have := h2 i x hx
      show RdLg (((lgC g ++ lgs r).drop ((i + 1) * 2)).take 2) x
      rw [List.drop_append, List.drop_of_length_le (by simp [lgC]; omega)]
      simpa [lgC, show (i + 1) * 2 - 2 = i * 2 by omega] using this
/-- cells of legs are these -/
theorem each_lgs : ∀ (L : List Lg) (cells : List Value), Each RdLg 2 cells L → cells = lgs L
  | [], cells, h => by
    have := h.1
    simp at this
    rw [this]
    rfl
  | g :: r, cells, h => by
    have h0 := (h.2 0 g rfl).1
    rw [Nat.zero_mul, List.drop_zero] at h0
    have hr := each_lgs r (cells.drop 2) ⟨by rw [List.length_drop, h.1, List.length_cons]; omega, fun i x hx => by
      have := h.2 (i + 1) x (by rw [List.getElem?_cons_succ]; exact hx)
      rw [List.drop_drop]
      rwa [show 2 + i * 2 = (i + 1) * 2 by omega]⟩
    show cells = lgC g ++ lgs r
    have e := List.take_append_drop 2 cells
    rw [h0, hr] at e
    exact e.symm

end Go.Proofs.YtnphncemghfkbaaGreat

namespace Go.Proofs.YtnphncemghfkbaaGreat
open Go.RowKit Go.My Go.Maps Go.WideMaps
set_option linter.unusedSimpArgs false
set_option linter.unusedVariables false
attribute [local go_sem ↓] Go.wp_at_zero Go.wp_at_succ

/-- blocks that are new since B, and lie in w, and are not that one -/
def New (B : Nat) (w : World) (g : Option Nat) (k : Nat) : Prop := B ≤ k ∧ k < w.heap.size ∧ g ≠ some k
theorem LgS.more {w : World} {F G : Nat → Prop} {v : Value} {L : List Lg} (h : LgS w F v L) (hF : ∀ k, F k → G k) : LgS w G v L := by
  obtain ⟨A, c, cells, e, hr, r⟩ := h
  exact ⟨A, c, cells, e, hr.more hF, r⟩
theorem LgS.frS {w w' : World} {F S : Nat → Prop} {v : Value} {L : List Lg} (h : LgS w F v L) (hf : Fr S w w') (hn : ∀ k, F k → k < w.heap.size → ¬ S k) : LgS w' F v L := by
  obtain ⟨A, c, cells, e, hr, r⟩ := h
  exact ⟨A, c, cells, e, hr.fr (by omega) hf hn, r⟩
theorem LgS.okl {w : World} {F : Nat → Prop} {v : Value} {L : List Lg} (h : LgS w F v L) : ∀ g ∈ L, g.ok := fun g hg => by
  obtain ⟨A, c, cells, e, hr, hE, _⟩ := h
  obtain ⟨i, hi, rfl⟩ := List.getElem_of_mem hg
  exact (hE.2 i _ (List.getElem?_eq_getElem hi)).2
def RetLg (w : World) (L : List Lg) (e : Ending) (w' : World) : Prop := ∃ A c, e = .returned (.slice A L.length c) ∧ LgS w' (New w.heap.size w' none) (.slice A L.length c) L ∧ Fr No w w'
set_option maxRecDepth 100000 in
theorem cloneL_any (F : Nat → Prop) (v : Value) (L : List Lg) (w : World) (h : LgS w F v L) (hl : L.length ≤ 100000) :
    Calls Tryz.prog 68 #[v] w (RetLg w L) := by
  have hok := h.okl
  obtain ⟨A, c, cells, rfl, hr, hE, h1, h2⟩ := h
  have hce := each_lgs L cells hE
  have hnil := fun W => Lib.run_eql_slice_nil (P := Tryz.prog) W 45 92 A L.length c 0 0 Tryz.underlying45
  rcases A with _ | ad
  · have hl0 : L.length = 0 := by
      rcases Nat.eq_zero_or_pos L.length with h0 | h0
      · exact h0
      · obtain ⟨ad, h, _⟩ := hr.2 h0
        cases h
    have : L = [] := List.eq_nil_of_length_eq_zero hl0
    subst this
    simp only [Option.isNone_none, List.length_nil] at hnil
    clear hr hE hce hok
    go_enter Tryz.func68, Tryz.ntmps68
    go_wp2
    go_ret
    exact ⟨none, 0, rfl, LgS_nil _ _, Fr.refl _ _⟩
  · simp only [Option.isNone_some] at hnil
    have hmt : Own (w.alloc (.cells #[] 92)) 92 2 (.slice (some ⟨w.heap.size, 0, none⟩) 0 0) 0 [] := ⟨by simp, .inr ⟨w.heap.size, 0, #[], rfl, heap_alloc_new w _, by omega, by simp only [maxLen]; omega, by simp, by simp⟩⟩
    have hsrc : Src Tryz.prog (w.alloc (.cells #[] 92)) 2 45 (.slice (some ad) L.length c) L.length cells :=
      Src.of_rd (hr.fr (S := No) (by omega) ((Fr.refl _ _).alloc _) (fun _ _ _ h => h)) (by rw [hce]; exact lgs_ones L) Tryz.underlying45
    have HM := Lib.hid hmt
    have HR := Lib.hid hsrc
    have HE := Lib.hid hE
    have HS := Lib.hid hl
    clear hr hE hce hok hmt hsrc hl h1 h2
    go_enter Tryz.func68, Tryz.ntmps68
    go_wp2_with (at_builtin; refine wpList_app _ rfl (.tmp 5) (.tmp 6) 45 45 rfl elL HM.out rfl HR.out rfl (by simp only [maxLen]; have := HS.out; omega) (by have := HS.out; omega) ?_; intro v1 w1 ho1 hf1 hn1)
    go_ret
    rw [Nat.zero_add, List.nil_append] at ho1
    obtain ⟨A1, c1, rfl, hc1, hc2⟩ := ho1.form
    have hf2 : Fr No w w1 := ((Fr.refl No w).alloc (.cells #[] 92)).trans' hf1 (fun i hi hlt => by
      simp only [AtO, Value.ownBlock, Option.some.injEq] at hi
      omega)
    refine ⟨A1, c1, rfl, ⟨A1, c1, cells, rfl, ho1.rd.lt (by omega) |>.more (fun k hk => ?_), HE.out, hc1, hc2⟩, hf2⟩
    refine ⟨?_, hk.2, fun h => by cases h⟩
    rcases hn1 with h | h
    · rw [h] at hk
      have := hk.1
      simp only [Value.ownBlock, Option.some.injEq] at this
      omega
    · rw [h] at hk
      have := hk.1
      simp only [Option.some.injEq, World.size_alloc] at this
      omega
def OrdRet (w : World) (o : Od) (e : Ending) (w' : World) : Prop := ∃ A c, e = .returned (o.val (.slice A o.legs.length c)) ∧ LgS w' (New w.heap.size w' none) (.slice A o.legs.length c) o.legs ∧ Fr No w w'
theorem fr_set10 (w : World) (g : Nat) (a0 a1 a2 a3 a4 a5 a6 a7 a8 a9 : Value) : Fr (At1 g) w ((((((((((w.setCell ⟨g, 0, none⟩ a0).setCell ⟨g, 1, none⟩ a1).setCell ⟨g, 2, none⟩ a2).setCell ⟨g, 3, none⟩ a3).setCell ⟨g, 4, none⟩ a4).setCell ⟨g, 5, none⟩ a5).setCell ⟨g, 6, none⟩ a6).setCell ⟨g, 7, none⟩ a7).setCell ⟨g, 8, none⟩ a8).setCell ⟨g, 9, none⟩ a9) := (((((((((fr_set w g 0 a0).trans (fr_set _ g 1 a1)).trans (fr_set _ g 2 a2)).trans (fr_set _ g 3 a3)).trans (fr_set _ g 4 a4)).trans (fr_set _ g 5 a5)).trans (fr_set _ g 6 a6)).trans (fr_set _ g 7 a7)).trans (fr_set _ g 8 a8)).trans (fr_set _ g 9 a9)
set_option maxRecDepth 100000 in
set_option maxHeartbeats 2000000 in
theorem copyO_any (F : Nat → Prop) (o : Od) (v : Value) (w : World) (hv : LgS w F v o.legs) (hl : o.legs.length ≤ 100000) : Calls Tryz.prog 39 #[o.val v] w (OrdRet w o) := by
  have HT : Hid (∀ W, Fr No w W → Calls Tryz.prog 68 #[v] W (RetLg W o.legs)) := fun W hW => cloneL_any F v o.legs W (hv.no hW) hl
  obtain ⟨vB, vd, rfl, -, -⟩ := hv.form
  clear hv hl
  obtain ⟨ocl, osq, okd, oac, ope, osm, olg, opr, ohd, ont⟩ := o
  unfold OrdRet Od.val Od.cs at *
  unfold RetLg at HT
  simp only at HT ⊢
  generalize olg.length = vn at *
  have hbo := (Blk.new w 47 #[.int .i64 ocl, .int .i64 osq, .int .i64 okd, .string oac, .string ope, .int .i64 osm, .slice vB vn vd, .int .i64 opr, .int .i64 ohd, .string ont]).alloc (.cells #[.int .i64 0, .int .i64 0, .int .i64 0, .string ⟨#[]⟩, .string ⟨#[]⟩, .int .i64 0, .slice none 0 0, .int .i64 0, .int .i64 0, .string ⟨#[]⟩] 47)
  have hbz := Blk.new (w.alloc (.cells #[.int .i64 ocl, .int .i64 osq, .int .i64 okd, .string oac, .string ope, .int .i64 osm, .slice vB vn vd, .int .i64 opr, .int .i64 ohd, .string ont] 47)) 47 #[.int .i64 0, .int .i64 0, .int .i64 0, .string ⟨#[]⟩, .string ⟨#[]⟩, .int .i64 0, .slice none 0 0, .int .i64 0, .int .i64 0, .string ⟨#[]⟩]
  rw [World.size_alloc] at hbz
  have hf1 : Fr No w ((w.alloc (.cells #[.int .i64 ocl, .int .i64 osq, .int .i64 okd, .string oac, .string ope, .int .i64 osm, .slice vB vn vd, .int .i64 opr, .int .i64 ohd, .string ont] 47)).alloc (.cells #[.int .i64 0, .int .i64 0, .int .i64 0, .string ⟨#[]⟩, .string ⟨#[]⟩, .int .i64 0, .slice none 0 0, .int .i64 0, .int .i64 0, .string ⟨#[]⟩] 47)) := ((Fr.refl _ _).alloc _).alloc _
  have hsz : ((w.alloc (.cells #[.int .i64 ocl, .int .i64 osq, .int .i64 okd, .string oac, .string ope, .int .i64 osm, .slice vB vn vd, .int .i64 opr, .int .i64 ohd, .string ont] 47)).alloc (.cells #[.int .i64 0, .int .i64 0, .int .i64 0, .string ⟨#[]⟩, .string ⟨#[]⟩, .int .i64 0, .slice none 0 0, .int .i64 0, .int .i64 0, .string ⟨#[]⟩] 47)).heap.size = w.heap.size + 2 := by rw [World.size_alloc, World.size_alloc]
  go_enter Tryz.func39, Tryz.ntmps39
  go_upto_region 1 with (fail)
  generalize ((w.alloc (.cells #[.int .i64 ocl, .int .i64 osq, .int .i64 okd, .string oac, .string ope, .int .i64 osm, .slice vB vn vd, .int .i64 opr, .int .i64 ohd, .string ont] 47)).alloc (.cells #[.int .i64 0, .int .i64 0, .int .i64 0, .string ⟨#[]⟩, .string ⟨#[]⟩, .int .i64 0, .slice none 0 0, .int .i64 0, .int .i64 0, .string ⟨#[]⟩] 47)) = w2 at *
  have HF1 := Lib.hid hf1
  have HBO := Lib.hid hbo
  have HBZ := Lib.hid hbz
  have HSZ := Lib.hid hsz
  have x6 := hbo.cell 6
  simp only [List.getElem?_toArray, List.getElem?_cons_zero, List.getElem?_cons_succ] at x6
  clear hbo hbz hf1 hsz
  go_wp2_with fail
  (with_reducible refine (HT.out _ HF1.out).mono ?_)
  rintro e w3 ⟨A1, c1, rfl, hL3, hf3⟩
  have hbo := HBO.out.fr hf3 (fun h => h)
  have hbz := HBZ.out.fr hf3 (fun h => h)
  have HL3 := Lib.hid hL3
  have HF3 := Lib.hid hf3
  have HBZ3 := Lib.hid hbz
  have x0 := hbo.cell 0
  have y0 := hbz.cell 0
  have zx0 := hbo.frozen 0
  have zy0 := hbz.frozen 0
  have x1 := hbo.cell 1
  have y1 := hbz.cell 1
  have zx1 := hbo.frozen 1
  have zy1 := hbz.frozen 1
  have x2 := hbo.cell 2
  have y2 := hbz.cell 2
  have zx2 := hbo.frozen 2
  have zy2 := hbz.frozen 2
  have x3 := hbo.cell 3
  have y3 := hbz.cell 3
  have zx3 := hbo.frozen 3
  have zy3 := hbz.frozen 3
  have x4 := hbo.cell 4
  have y4 := hbz.cell 4
  have zx4 := hbo.frozen 4
  have zy4 := hbz.frozen 4
  have x5 := hbo.cell 5
  have y5 := hbz.cell 5
  have zx5 := hbo.frozen 5
  have zy5 := hbz.frozen 5
  have x6 := hbo.cell 6
  have y6 := hbz.cell 6
  have zx6 := hbo.frozen 6
  have zy6 := hbz.frozen 6
  have x7 := hbo.cell 7
  have y7 := hbz.cell 7
  have zx7 := hbo.frozen 7
  have zy7 := hbz.frozen 7
  have x8 := hbo.cell 8
  have y8 := hbz.cell 8
  have zx8 := hbo.frozen 8
  have zy8 := hbz.frozen 8
  have x9 := hbo.cell 9
  have y9 := hbz.cell 9
  have zx9 := hbo.frozen 9
  have zy9 := hbz.frozen 9
  simp only [List.getElem?_toArray, List.getElem?_cons_zero, List.getElem?_cons_succ] at x0 y0 x1 y1 x2 y2 x3 y3 x4 y4 x5 y5 x6 y6 x7 y7 x8 y8 x9 y9
  have hbo6 := hbo.set_ 6 (.slice A1 vn c1)
  have HFA : Hid (Fr (At1 w.heap.size) w3 (w3.setCell ⟨w.heap.size, 6, none⟩ (.slice A1 vn c1))) := fr_set _ _ _ _
  have HFB : Hid (Fr (At1 (w.heap.size + 1)) (w3.setCell ⟨w.heap.size, 6, none⟩ (.slice A1 vn c1)) _) := fr_set10 _ (w.heap.size + 1) (.int .i64 ocl) (.int .i64 osq) (.int .i64 okd) (.string oac) (.string ope) (.int .i64 osm) (.slice A1 vn c1) (.int .i64 opr) (.int .i64 ohd) (.string ont)
  clear hbo hbz hbo6 hL3 hf3 HT
  go_wp2
  refine bodyPost_ret (v := .agg #[.int .i64 ocl, .int .i64 osq, .int .i64 okd, .string oac, .string ope, .int .i64 osm, .slice A1 vn c1, .int .i64 opr, .int .i64 ohd, .string ont]) (by simp [results, Tryz.results39, go_sem, y0, y1, y2, y3, y4, y5, y6, y7, y8, y9]) rfl ?_
  refine ⟨A1, c1, rfl, ?_, ?_⟩
  · refine ((HL3.out.frS HFA.out ?_).frS HFB.out ?_).more ?_
    · rintro k hk _ rfl
      have := hk.1
      have := HSZ.out
      omega
    · rintro k hk _ rfl
      have := hk.1
      have := HSZ.out
      omega
    · intro k hk
      have h1 := hk.1
      have h2 := HSZ.out
      have h3 := HFA.out.size
      have h4 := HFB.out.size
      have h5 := hk.2.1
      exact ⟨by omega, by omega, hk.2.2⟩
  · refine ((HF1.out.trans HF3.out).trans' HFA.out ?_).trans' HFB.out ?_
    · rintro i rfl hlt
      omega
    · rintro i rfl hlt
      omega
end Go.Proofs.YtnphncemghfkbaaGreat

namespace Go.Proofs.YtnphncemghfkbaaGreat
open Go.RowKit Go.My Go.Maps
set_option linter.unusedSimpArgs false
set_option linter.unusedVariables false
attribute [local go_sem ↓] Go.wp_at_zero Go.wp_at_succ

theorem bytes_ext {a b : ByteArray} (h : a.data.toList = b.data.toList) : a = b := by
  obtain ⟨⟨x⟩⟩ := a
  obtain ⟨⟨y⟩⟩ := b
  simp only at h
  rw [h]
instance : DecidableEq Lg := fun a b =>
  if h : a.acct.data.toList = b.acct.data.toList ∧ a.sum = b.sum then isTrue (by cases a; cases b; simp only [Lg.mk.injEq]; exact ⟨bytes_ext h.1, h.2⟩) else isFalse fun e => h (by subst e; exact ⟨rfl, rfl⟩)
theorem neq_lg (a b : Lg) (W : World) (h : a ≠ b) : (binOp .neq 92 (.agg #[.string a.acct, .int .i64 a.sum]) (.agg #[.string b.acct, .int .i64 b.sum])).run Tryz.prog W = .ok (.bool true) W := by
  have key : a.acct.toList = b.acct.toList → ¬ a.sum = b.sum := fun h1 h2 => h (by
    cases a; cases b
    simp only [Lg.mk.injEq]
    rw [ByteArray.toList_eq, ByteArray.toList_eq] at h1
    exact ⟨bytes_ext h1, h2⟩)
  simp [go_sem]
  exact key
def EqRel (w : World) (L R : List Lg) (iv : Value) (wr : World) : Prop := ∃ k j : Nat, k ≤ L.length ∧ iv = .int .i64 k ∧ L.take k = R.take k ∧ wr = w.drewN j
set_option maxRecDepth 100000 in
set_option maxHeartbeats 2000000 in
theorem equalL_any (F G : Nat → Prop) (v u : Value) (L R : List Lg) (w : World) (hv : LgS w F v L) (hu : LgS w G u R) :
    Calls Tryz.prog 83 #[v, u] w fun e w' => e = .returned (.bool (decide (L = R))) ∧ Fr No w w' := by
  obtain ⟨A, c, cA, rfl, hA, eA, hc1, hc2⟩ := hv
  obtain ⟨B, d, cB, rfl, hB, eB, hd1, hd2⟩ := hu
  have HA := Lib.hid hA
  have HB := Lib.hid hB
  have EA := Lib.hid eA
  have EB := Lib.hid eB
  have HM : Hid (L.length ≤ 9223372036854775807) := by show _ ≤ _; unfold maxLen at hc2; omega
  clear hA hB eA eB
  by_cases hlen : L.length = R.length
  · have hz : ((L.length : Int) != (R.length : Int)) = false := by rw [bne_eq_false_iff_eq]; omega
    have HL := Lib.hid hlen
    clear hlen
    go_enter Tryz.func83, Tryz.ntmps83
    go_wp2
    go_loopw [13] (fun iv wr => EqRel w L R iv wr) (fun iv _ => L.length - (intOf iv).toNat)
    case atStart => exact ⟨0, 0, Nat.zero_le _, rfl, rfl, rfl⟩
    case round =>
      obtain ⟨k, j, hk, rfl, heq, rfl⟩ := hrel
      have HE := Lib.hid heq
      clear heq
      by_cases hlt : k < L.length
      · have hlt2 : k < R.length := by have := HL.out; omega
        obtain ⟨ad, rfl, _, hok1, p0, p1⟩ := lg_at HA.out EA.out k hlt hlt
        obtain ⟨bd, rfl, _, hok2, q0, q1⟩ := lg_at HB.out EB.out k hlt2 hlt2
        have e1 : L.take (k + 1) = L.take k ++ [L[k]] := List.take_succ_eq_append_getElem hlt
        have e2 : R.take (k + 1) = R.take k ++ [R[k]] := List.take_succ_eq_append_getElem hlt2
        have hk62 : (k : Int) < 9223372036854775807 := by have := HM.out; omega
        by_cases hxy : L[k] = R[k]
        · have E : Hid (L.take (k + 1) = R.take (k + 1)) := by show _ = _; rw [e1, e2, HE.out, hxy]
          rw [← hxy] at q0 q1
          clear e1 e2 hxy hok1 hok2
          generalize L[k].acct = n1 at *
          generalize L[k].sum = v1 at *
          go_wp2
          go_quiet (fail)
          go_wp2
          go_roundw
          case rel => exact ⟨k + 1, _, by omega, by go_num, E.out, rfl⟩
          case measure => simp [intOf]; omega
        · have E : Hid (L ≠ R) := by
            intro h
            subst h
            exact hxy rfl
          have hne := fun W => neq_lg L[k] R[k] W hxy
          clear e1 e2 hxy hok1 hok2
          generalize L[k].acct = n1 at *
          generalize L[k].sum = v1 at *
          generalize R[k].acct = m1 at *
          generalize R[k].sum = u1 at *
          go_wp2
          go_quiet (fail)
          go_wp2
          go_ret
          exact ⟨by rw [decide_eq_false E.out]; rfl, ((Fr.refl _ _).drewN _).drewN _⟩
      · have hkl : k = L.length := by omega
        subst hkl
        have h1 := HE.out
        rw [List.take_length, HL.out, List.take_length] at h1
        have H1 := Lib.hid h1
        clear h1
        go_wp2
        go_ret
        exact ⟨by rw [decide_eq_true H1.out]; rfl, (Fr.refl _ _).drewN _⟩
  · have hz : ((L.length : Int) != (R.length : Int)) = true := by rw [bne_iff_ne]; omega
    have HL := Lib.hid hlen
    clear hlen
    go_enter Tryz.func83, Tryz.ntmps83
    go_wp2
    go_ret
    exact ⟨by rw [decide_eq_false (fun h => HL.out (by rw [h]))]; rfl, Fr.refl _ _⟩

/-- the same in every field -/
def eqO (o r : Od) : Bool := decide (o.cl = r.cl ∧ o.sq = r.sq) && (decide (o.kd = r.kd) && (decide (o.an = r.an) && (decide (o.pn = r.pn) && (decide (o.sum = r.sum) && (decide (o.legs = r.legs) && (decide (o.per = r.per) && (decide (o.hold = r.hold) && decide (o.note.data.toList = r.note.data.toList))))))))
theorem eqO_iff (o r : Od) : eqO o r = true ↔ o = r := by
  unfold eqO
  simp only [Bool.and_eq_true, decide_eq_true_eq]
  constructor
  · rintro ⟨⟨h1, h2⟩, h3, h4, h5, h6, h7, h8, h9, h10⟩
    obtain ⟨a, b, c, d, e, f, g, h, i, j⟩ := o
    obtain ⟨a', b', c', d', e', f', g', h', i', j'⟩ := r
    simp only [Od.an, Od.pn] at h1 h2 h3 h4 h5 h6 h7 h8 h9 h10
    rw [h1, h2, h3, bytes_ext h4, bytes_ext h5, h6, h7, h8, h9, bytes_ext h10]
  · rintro rfl
    simp
theorem eq_id (a b c d : Int) (W : World) (h : ¬ (a = c ∧ b = d)) : (binOp .eql 44 (.agg #[.int .i64 a, .int .i64 b]) (.agg #[.int .i64 c, .int .i64 d])).run Tryz.prog W = .ok (.bool false) W := by
  simp [go_sem]
  intro h1 h2
  exact h ⟨h1, h2⟩
set_option maxRecDepth 100000 in
set_option maxHeartbeats 8000000 in
theorem osame_any (F G : Nat → Prop) (o r : Od) (v u : Value) (w : World) (hv : LgS w F v o.legs) (hu : LgS w G u r.legs) :
    Calls Tryz.prog 57 #[o.val v, r.val u] w fun e w' => e = .returned (.bool (eqO o r)) ∧ Fr No w w' := by
  have HEQ := Lib.hid (fun W (hW : Fr No w W) => equalL_any F G v u o.legs r.legs W (hv.no hW) (hu.no hW))
  clear hv hu
  unfold Od.val
  obtain ⟨acl, asq, akd, aac, ape, asm, alg, apr, ahd, ant⟩ := o
  obtain ⟨bcl, bsq, bkd, bac, bpe, bsm, blg, bpr, bhd, bnt⟩ := r
  unfold Od.cs
  simp only at HEQ ⊢
  have HF : Hid (∀ o1 o2 : Obj, Fr No w ((w.alloc o1).alloc o2)) := fun o1 o2 => ((Fr.refl _ _).alloc _).alloc _
  by_cases h1 : acl = bcl ∧ asq = bsq
  rotate_left
  · have hne := fun W => eq_id acl asq bcl bsq W h1
    have HB : Hid (eqO ⟨acl, asq, akd, aac, ape, asm, alg, apr, ahd, ant⟩ ⟨bcl, bsq, bkd, bac, bpe, bsm, blg, bpr, bhd, bnt⟩ = false) := by show _ = _; unfold eqO; rw [decide_eq_false h1]; rfl
    clear h1 HEQ
    go_enter Tryz.func57, Tryz.ntmps57
    go_wp2
    go_ret
    exact ⟨by rw [HB.out]; rfl, HF.out _ _⟩
  obtain ⟨rfl, rfl⟩ := h1
  by_cases h2 : akd = bkd
  rotate_left
  · have HB : Hid (eqO ⟨acl, asq, akd, aac, ape, asm, alg, apr, ahd, ant⟩ ⟨acl, asq, bkd, bac, bpe, bsm, blg, bpr, bhd, bnt⟩ = false) := by
      show _ = _
      cases hq : eqO ⟨acl, asq, akd, aac, ape, asm, alg, apr, ahd, ant⟩ ⟨acl, asq, bkd, bac, bpe, bsm, blg, bpr, bhd, bnt⟩ with
      | false => rfl
      | true =>
        have h3 := (eqO_iff _ _).1 hq
        simp only [Od.mk.injEq] at h3
        exfalso
        apply h2
        simp only [h3]
    have hz : (akd == bkd) = false := beq_eq_false_iff_ne.2 h2
    clear h2
    clear HEQ
    go_enter Tryz.func57, Tryz.ntmps57
    go_wp2
    go_ret
    exact ⟨by rw [HB.out]; rfl, HF.out _ _⟩
  subst h2
  by_cases h2 : aac.data.toList = bac.data.toList
  rotate_left
  · have HB : Hid (eqO ⟨acl, asq, akd, aac, ape, asm, alg, apr, ahd, ant⟩ ⟨acl, asq, akd, bac, bpe, bsm, blg, bpr, bhd, bnt⟩ = false) := by
      show _ = _
      cases hq : eqO ⟨acl, asq, akd, aac, ape, asm, alg, apr, ahd, ant⟩ ⟨acl, asq, akd, bac, bpe, bsm, blg, bpr, bhd, bnt⟩ with
      | false => rfl
      | true =>
        have h3 := (eqO_iff _ _).1 hq
        simp only [Od.mk.injEq] at h3
        exfalso
        apply h2
        simp only [h3]
    have hz : (aac.toList == bac.toList) = false := by rw [ByteArray.toList_eq, ByteArray.toList_eq]; exact beq_eq_false_iff_ne.2 h2
    clear h2
    clear HEQ
    go_enter Tryz.func57, Tryz.ntmps57
    go_wp2
    go_ret
    exact ⟨by rw [HB.out]; rfl, HF.out _ _⟩
  obtain rfl := bytes_ext h2
  by_cases h2 : ape.data.toList = bpe.data.toList
  rotate_left
  · have HB : Hid (eqO ⟨acl, asq, akd, aac, ape, asm, alg, apr, ahd, ant⟩ ⟨acl, asq, akd, aac, bpe, bsm, blg, bpr, bhd, bnt⟩ = false) := by
      show _ = _
      cases hq : eqO ⟨acl, asq, akd, aac, ape, asm, alg, apr, ahd, ant⟩ ⟨acl, asq, akd, aac, bpe, bsm, blg, bpr, bhd, bnt⟩ with
      | false => rfl
      | true =>
        have h3 := (eqO_iff _ _).1 hq
        simp only [Od.mk.injEq] at h3
        exfalso
        apply h2
        simp only [h3]
    have hz : (ape.toList == bpe.toList) = false := by rw [ByteArray.toList_eq, ByteArray.toList_eq]; exact beq_eq_false_iff_ne.2 h2
    clear h2
    clear HEQ
    go_enter Tryz.func57, Tryz.ntmps57
    go_wp2
    go_ret
    exact ⟨by rw [HB.out]; rfl, HF.out _ _⟩
  obtain rfl := bytes_ext h2
  by_cases h2 : asm = bsm
  rotate_left
  · have HB : Hid (eqO ⟨acl, asq, akd, aac, ape, asm, alg, apr, ahd, ant⟩ ⟨acl, asq, akd, aac, ape, bsm, blg, bpr, bhd, bnt⟩ = false) := by
      show _ = _
      cases hq : eqO ⟨acl, asq, akd, aac, ape, asm, alg, apr, ahd, ant⟩ ⟨acl, asq, akd, aac, ape, bsm, blg, bpr, bhd, bnt⟩ with
      | false => rfl
      | true =>
        have h3 := (eqO_iff _ _).1 hq
        simp only [Od.mk.injEq] at h3
        exfalso
        apply h2
        simp only [h3]
    have hz : (asm == bsm) = false := beq_eq_false_iff_ne.2 h2
    clear h2
    clear HEQ
    go_enter Tryz.func57, Tryz.ntmps57
    go_wp2
    go_ret
    exact ⟨by rw [HB.out]; rfl, HF.out _ _⟩
  subst h2
  by_cases h2 : alg = blg
  rotate_left
  · have HB : Hid (eqO ⟨acl, asq, akd, aac, ape, asm, alg, apr, ahd, ant⟩ ⟨acl, asq, akd, aac, ape, asm, blg, bpr, bhd, bnt⟩ = false) := by
      show _ = _
      cases hq : eqO ⟨acl, asq, akd, aac, ape, asm, alg, apr, ahd, ant⟩ ⟨acl, asq, akd, aac, ape, asm, blg, bpr, bhd, bnt⟩ with
      | false => rfl
      | true =>
        have h3 := (eqO_iff _ _).1 hq
        simp only [Od.mk.injEq] at h3
        exfalso
        apply h2
        simp only [h3]
    rw [decide_eq_false h2] at HEQ
    clear h2
    go_enter Tryz.func57, Tryz.ntmps57
    go_wp2_with fail
    refine (HEQ.out _ (HF.out _ _)).mono ?_
    rintro e w1 ⟨rfl, hf1⟩
    have x7 := (Blk.new w 47 #[.int .i64 acl, .int .i64 asq, .int .i64 akd, .string aac, .string ape, .int .i64 asm, v, .int .i64 apr, .int .i64 ahd, .string ant]).alloc (.cells #[.int .i64 acl, .int .i64 asq, .int .i64 akd, .string aac, .string ape, .int .i64 asm, u, .int .i64 bpr, .int .i64 bhd, .string bnt] 47) |>.fr hf1 (fun h => h)
    have y7 := (Blk.new (w.alloc (.cells #[.int .i64 acl, .int .i64 asq, .int .i64 akd, .string aac, .string ape, .int .i64 asm, v, .int .i64 apr, .int .i64 ahd, .string ant] 47)) 47 #[.int .i64 acl, .int .i64 asq, .int .i64 akd, .string aac, .string ape, .int .i64 asm, u, .int .i64 bpr, .int .i64 bhd, .string bnt]).fr hf1 (fun h => h)
    have z7 := x7.cell 7
    have z8 := x7.cell 8
    have z9 := x7.cell 9
    have t7 := y7.cell 7
    have t8 := y7.cell 8
    have t9 := y7.cell 9
    rw [World.size_alloc] at t7 t8 t9
    simp only [List.getElem?_toArray, List.getElem?_cons_zero, List.getElem?_cons_succ] at z7 z8 z9 t7 t8 t9
    have HF1 := Lib.hid ((HF.out _ _).trans hf1)
    clear x7 y7 hf1 HEQ
    go_wp2
    go_ret
    exact ⟨by rw [HB.out]; rfl, HF1.out⟩
  subst h2
  rw [decide_eq_true rfl] at HEQ
  by_cases h2 : apr = bpr
  rotate_left
  · have HB : Hid (eqO ⟨acl, asq, akd, aac, ape, asm, alg, apr, ahd, ant⟩ ⟨acl, asq, akd, aac, ape, asm, alg, bpr, bhd, bnt⟩ = false) := by
      show _ = _
      cases hq : eqO ⟨acl, asq, akd, aac, ape, asm, alg, apr, ahd, ant⟩ ⟨acl, asq, akd, aac, ape, asm, alg, bpr, bhd, bnt⟩ with
      | false => rfl
      | true =>
        have h3 := (eqO_iff _ _).1 hq
        simp only [Od.mk.injEq] at h3
        exfalso
        apply h2
        simp only [h3]
    have hz : (apr == bpr) = false := beq_eq_false_iff_ne.2 h2
    clear h2
    go_enter Tryz.func57, Tryz.ntmps57
    go_wp2_with fail
    refine (HEQ.out _ (HF.out _ _)).mono ?_
    rintro e w1 ⟨rfl, hf1⟩
    have x7 := (Blk.new w 47 #[.int .i64 acl, .int .i64 asq, .int .i64 akd, .string aac, .string ape, .int .i64 asm, v, .int .i64 apr, .int .i64 ahd, .string ant]).alloc (.cells #[.int .i64 acl, .int .i64 asq, .int .i64 akd, .string aac, .string ape, .int .i64 asm, u, .int .i64 bpr, .int .i64 bhd, .string bnt] 47) |>.fr hf1 (fun h => h)
    have y7 := (Blk.new (w.alloc (.cells #[.int .i64 acl, .int .i64 asq, .int .i64 akd, .string aac, .string ape, .int .i64 asm, v, .int .i64 apr, .int .i64 ahd, .string ant] 47)) 47 #[.int .i64 acl, .int .i64 asq, .int .i64 akd, .string aac, .string ape, .int .i64 asm, u, .int .i64 bpr, .int .i64 bhd, .string bnt]).fr hf1 (fun h => h)
    have z7 := x7.cell 7
    have z8 := x7.cell 8
    have z9 := x7.cell 9
    have t7 := y7.cell 7
    have t8 := y7.cell 8
    have t9 := y7.cell 9
    rw [World.size_alloc] at t7 t8 t9
    simp only [List.getElem?_toArray, List.getElem?_cons_zero, List.getElem?_cons_succ] at z7 z8 z9 t7 t8 t9
    have HF1 := Lib.hid ((HF.out _ _).trans hf1)
    clear x7 y7 hf1 HEQ
    go_wp2
    go_ret
    exact ⟨by rw [HB.out]; rfl, HF1.out⟩
  subst h2
  by_cases h2 : ahd = bhd
  rotate_left
  · have HB : Hid (eqO ⟨acl, asq, akd, aac, ape, asm, alg, apr, ahd, ant⟩ ⟨acl, asq, akd, aac, ape, asm, alg, apr, bhd, bnt⟩ = false) := by
      show _ = _
      cases hq : eqO ⟨acl, asq, akd, aac, ape, asm, alg, apr, ahd, ant⟩ ⟨acl, asq, akd, aac, ape, asm, alg, apr, bhd, bnt⟩ with
      | false => rfl
      | true =>
        have h3 := (eqO_iff _ _).1 hq
        simp only [Od.mk.injEq] at h3
        exfalso
        apply h2
        simp only [h3]
    have hz : (ahd == bhd) = false := beq_eq_false_iff_ne.2 h2
    clear h2
    go_enter Tryz.func57, Tryz.ntmps57
    go_wp2_with fail
    refine (HEQ.out _ (HF.out _ _)).mono ?_
    rintro e w1 ⟨rfl, hf1⟩
    have x7 := (Blk.new w 47 #[.int .i64 acl, .int .i64 asq, .int .i64 akd, .string aac, .string ape, .int .i64 asm, v, .int .i64 apr, .int .i64 ahd, .string ant]).alloc (.cells #[.int .i64 acl, .int .i64 asq, .int .i64 akd, .string aac, .string ape, .int .i64 asm, u, .int .i64 apr, .int .i64 bhd, .string bnt] 47) |>.fr hf1 (fun h => h)
    have y7 := (Blk.new (w.alloc (.cells #[.int .i64 acl, .int .i64 asq, .int .i64 akd, .string aac, .string ape, .int .i64 asm, v, .int .i64 apr, .int .i64 ahd, .string ant] 47)) 47 #[.int .i64 acl, .int .i64 asq, .int .i64 akd, .string aac, .string ape, .int .i64 asm, u, .int .i64 apr, .int .i64 bhd, .string bnt]).fr hf1 (fun h => h)
    have z7 := x7.cell 7
    have z8 := x7.cell 8
    have z9 := x7.cell 9
    have t7 := y7.cell 7
    have t8 := y7.cell 8
    have t9 := y7.cell 9
    rw [World.size_alloc] at t7 t8 t9
    simp only [List.getElem?_toArray, List.getElem?_cons_zero, List.getElem?_cons_succ] at z7 z8 z9 t7 t8 t9
    have HF1 := Lib.hid ((HF.out _ _).trans hf1)
    clear x7 y7 hf1 HEQ
    go_wp2
    go_ret
    exact ⟨by rw [HB.out]; rfl, HF1.out⟩
  subst h2
  by_cases h2 : ant.data.toList = bnt.data.toList
  rotate_left
  · have HB : Hid (eqO ⟨acl, asq, akd, aac, ape, asm, alg, apr, ahd, ant⟩ ⟨acl, asq, akd, aac, ape, asm, alg, apr, ahd, bnt⟩ = false) := by
      show _ = _
      cases hq : eqO ⟨acl, asq, akd, aac, ape, asm, alg, apr, ahd, ant⟩ ⟨acl, asq, akd, aac, ape, asm, alg, apr, ahd, bnt⟩ with
      | false => rfl
      | true =>
        have h3 := (eqO_iff _ _).1 hq
        simp only [Od.mk.injEq] at h3
        exfalso
        apply h2
        simp only [h3]
    have hz : (ant.toList == bnt.toList) = false := by rw [ByteArray.toList_eq, ByteArray.toList_eq]; exact beq_eq_false_iff_ne.2 h2
    clear h2
    go_enter Tryz.func57, Tryz.ntmps57
    go_wp2_with fail
    refine (HEQ.out _ (HF.out _ _)).mono ?_
    rintro e w1 ⟨rfl, hf1⟩
    have x7 := (Blk.new w 47 #[.int .i64 acl, .int .i64 asq, .int .i64 akd, .string aac, .string ape, .int .i64 asm, v, .int .i64 apr, .int .i64 ahd, .string ant]).alloc (.cells #[.int .i64 acl, .int .i64 asq, .int .i64 akd, .string aac, .string ape, .int .i64 asm, u, .int .i64 apr, .int .i64 ahd, .string bnt] 47) |>.fr hf1 (fun h => h)
    have y7 := (Blk.new (w.alloc (.cells #[.int .i64 acl, .int .i64 asq, .int .i64 akd, .string aac, .string ape, .int .i64 asm, v, .int .i64 apr, .int .i64 ahd, .string ant] 47)) 47 #[.int .i64 acl, .int .i64 asq, .int .i64 akd, .string aac, .string ape, .int .i64 asm, u, .int .i64 apr, .int .i64 ahd, .string bnt]).fr hf1 (fun h => h)
    have z7 := x7.cell 7
    have z8 := x7.cell 8
    have z9 := x7.cell 9
    have t7 := y7.cell 7
    have t8 := y7.cell 8
    have t9 := y7.cell 9
    rw [World.size_alloc] at t7 t8 t9
    simp only [List.getElem?_toArray, List.getElem?_cons_zero, List.getElem?_cons_succ] at z7 z8 z9 t7 t8 t9
    have HF1 := Lib.hid ((HF.out _ _).trans hf1)
    clear x7 y7 hf1 HEQ
    go_wp2
    go_ret
    exact ⟨by rw [HB.out]; rfl, HF1.out⟩
  obtain rfl := bytes_ext h2
  have HB : Hid (eqO ⟨acl, asq, akd, aac, ape, asm, alg, apr, ahd, ant⟩ ⟨acl, asq, akd, aac, ape, asm, alg, apr, ahd, ant⟩ = true) := (eqO_iff _ _).2 rfl
  go_enter Tryz.func57, Tryz.ntmps57
  go_wp2_with fail
  refine (HEQ.out _ (HF.out _ _)).mono ?_
  rintro e w1 ⟨rfl, hf1⟩
  have x7 := (Blk.new w 47 #[.int .i64 acl, .int .i64 asq, .int .i64 akd, .string aac, .string ape, .int .i64 asm, v, .int .i64 apr, .int .i64 ahd, .string ant]).alloc (.cells #[.int .i64 acl, .int .i64 asq, .int .i64 akd, .string aac, .string ape, .int .i64 asm, u, .int .i64 apr, .int .i64 ahd, .string ant] 47) |>.fr hf1 (fun h => h)
  have y7 := (Blk.new (w.alloc (.cells #[.int .i64 acl, .int .i64 asq, .int .i64 akd, .string aac, .string ape, .int .i64 asm, v, .int .i64 apr, .int .i64 ahd, .string ant] 47)) 47 #[.int .i64 acl, .int .i64 asq, .int .i64 akd, .string aac, .string ape, .int .i64 asm, u, .int .i64 apr, .int .i64 ahd, .string ant]).fr hf1 (fun h => h)
  have z7 := x7.cell 7
  have z8 := x7.cell 8
  have z9 := x7.cell 9
  have t7 := y7.cell 7
  have t8 := y7.cell 8
  have t9 := y7.cell 9
  rw [World.size_alloc] at t7 t8 t9
  simp only [List.getElem?_toArray, List.getElem?_cons_zero, List.getElem?_cons_succ] at z7 z8 z9 t7 t8 t9
  have HF1 := Lib.hid ((HF.out _ _).trans hf1)
  clear x7 y7 hf1 HEQ
  go_wp2
  go_ret
  exact ⟨by rw [HB.out]; rfl, HF1.out⟩
end Go.Proofs.YtnphncemghfkbaaGreat
