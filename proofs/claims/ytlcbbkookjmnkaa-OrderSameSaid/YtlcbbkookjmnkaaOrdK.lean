/- Orders that are the same, and Ids that are ahead: the walk. -/
import Derived.Test.YtlcbbkookjmnkaaOrdJ
import Derived.Deep.RegionHeld3
import Derived.Deep.DrawnRows
namespace Go.My
open Go Go.RowKit
/-- the ways through a region meet -/
def Meet (F : World → Prop) (a2 : Act) : Exit → Act → World → Prop
  | .normal, a', w' => a' = a2 ∧ F w'
  | _, _, _ => False
theorem region_meet {P : Program} {id : Nat} {ops : Array Oper} {b : Bool} {Q : Exit → Act → World → Prop} {a : Act} {w : World} (F : World → Prop) (a2 : Act) (h : (Code.region id ops b).wp P (Meet F a2) a w) (k : ∀ w', F w' → Q .normal a2 w') : (Code.region id ops b).wp P Q a w :=
  Code.wp_mono (fun e a' w' h => by
    cases e with
    | normal => obtain ⟨rfl, hF⟩ := h; exact k w' hF
    | _ => exact False.elim h) h
end Go.My
namespace Go.Proofs.Ytlcbbkookjmnkaa
open Go.RowKit Go.My Go.Maps
set_option linter.unusedSimpArgs false
set_option linter.unusedVariables false
attribute [local go_sem ↓] Go.wp_at_zero Go.wp_at_succ

set_option maxRecDepth 100000 in
set_option maxHeartbeats 4000000 in
theorem few_det (cl sq kd : Int) (acct peer : ByteArray) (sum : Int) (L : List Lg) (A : Option Addr) (c : Nat) (per hold : Int) (note : ByteArray) (w : World) (hlc : L.length ≤ c) :
    Calls Try.prog 10 #[.agg #[.int .i64 cl, .int .i64 sq, .int .i64 kd, .string acct, .string peer, .int .i64 sum, .slice A L.length c, .int .i64 per, .int .i64 hold, .string note]] w fun e w' => e = .returned (.agg #[.int .i64 cl, .int .i64 sq, .int .i64 kd, .string acct, .string peer, .int .i64 sum, .slice A (min L.length 10) c, .int .i64 per, .int .i64 hold, .string note]) ∧ Fr No w w' := by
  have hmn : (min (L.length : Int) 10).toNat = min L.length 10 := by omega
  have hb := Blk.new w 26 #[.int .i64 cl, .int .i64 sq, .int .i64 kd, .string acct, .string peer, .int .i64 sum, .slice A L.length c, .int .i64 per, .int .i64 hold, .string note]
  have hmx : 0 ≤ min (L.length : Int) 10 ∧ min (L.length : Int) 10 ≤ (c : Int) := ⟨by omega, by omega⟩
  have d6 := hb.cell 6
  simp only [List.getElem?_toArray, List.getElem?_cons_zero, List.getElem?_cons_succ] at d6
  go_enter Try.func10, Try.ntmps10
  go_wp2
  refine bodyPost_ret (v := .agg #[.int .i64 cl, .int .i64 sq, .int .i64 kd, .string acct, .string peer, .int .i64 sum, .slice A (min L.length 10) c, .int .i64 per, .int .i64 hold, .string note]) (by
    have hb2 := Blk.new (w.alloc (.cells #[.int .i64 cl, .int .i64 sq, .int .i64 kd, .string acct, .string peer, .int .i64 sum, .slice A (min L.length 10) c, .int .i64 per, .int .i64 hold, .string note] 26)) 26 #[.int .i64 cl, .int .i64 sq, .int .i64 kd, .string acct, .string peer, .int .i64 sum, .slice A (min L.length 10) c, .int .i64 per, .int .i64 hold, .string note]
    have e0 := hb2.cell 0
    have e1 := hb2.cell 1
    have e2 := hb2.cell 2
    have e3 := hb2.cell 3
    have e4 := hb2.cell 4
    have e5 := hb2.cell 5
    have e6 := hb2.cell 6
    have e7 := hb2.cell 7
    have e8 := hb2.cell 8
    have e9 := hb2.cell 9
    simp only [List.getElem?_toArray, List.getElem?_cons_zero, List.getElem?_cons_succ] at e0 e1 e2 e3 e4 e5 e6 e7 e8 e9
    simp [results, Try.results10, go_sem, e0, e1, e2, e3, e4, e5, e6, e7, e8, e9]) rfl ?_
  have hf : Fr No w ((w.alloc (.cells #[.int .i64 cl, .int .i64 sq, .int .i64 kd, .string acct, .string peer, .int .i64 sum, .slice A (min L.length 10) c, .int .i64 per, .int .i64 hold, .string note] 26)).alloc (.cells #[.int .i64 cl, .int .i64 sq, .int .i64 kd, .string acct, .string peer, .int .i64 sum, .slice A (min L.length 10) c, .int .i64 per, .int .i64 hold, .string note] 26)) := ((Fr.refl _ _).alloc _).alloc _
  exact ⟨rfl, hf⟩

theorem oe_case (o : Od) : (obE o = 0 ∧ (0 ≤ o.cl ∧ o.cl ≤ 9 ∧ 1 ≤ o.sq ∧ o.sq ≤ 999)) ∨ obE o = 1 := by
  by_cases h : rightO o = true
  · left
    have h' := h
    unfold rightO at h'
    simp only [Bool.and_eq_true] at h'
    have hi := h'.2.2.1
    unfold idB at hi
    simp only [Bool.and_eq_true, decide_eq_true_eq] at hi
    exact ⟨by unfold obE; rw [if_pos h], hi⟩
  · right
    unfold obE
    rw [if_neg h]
theorem same_bytes {a b : Od} (ha : obE a = 0) (hb : obE b = 0) (oa : a.ok) (ob : b.ok) (ga : ∀ g ∈ a.legs, g.ok) (gb : ∀ g ∈ b.legs, g.ok) : eqO a b = decide (obL a = obL b) := by
  by_cases h : a = b
  · subst h
    rw [(eqO_iff a a).2 rfl, decide_eq_true rfl]
  · have h1 : eqO a b = false := by
      cases e : eqO a b with
      | false => rfl
      | true => exact absurd ((eqO_iff a b).1 e) h
    have h2 : obL a ≠ obL b := by
      intro e
      rcases back_case a oa ga with ⟨_, e1, _⟩ | e1
      · rcases back_case b ob gb with ⟨_, e2, _⟩ | e2
        · rw [e, e2] at e1
          exact h e1.symm
        · omega
      · omega
    rw [h1, decide_eq_false h2]
theorem eqO_comm (a b : Od) : eqO b a = eqO a b := by
  by_cases h : a = b
  · rw [h]
  · have h1 : eqO a b = false := by
      cases e : eqO a b with
      | false => rfl
      | true => exact absurd ((eqO_iff a b).1 e) h
    have h2 : eqO b a = false := by
      cases e : eqO b a with
      | false => rfl
      | true => exact absurd ((eqO_iff b a).1 e).symm h
    rw [h1, h2]
theorem ids_case (a b c d : Int) : (aheadI a b c d = true ∧ aheadI c d a b = false ∧ ¬ (a = c ∧ b = d)) ∨ (aheadI a b c d = false ∧ aheadI c d a b = true ∧ ¬ (a = c ∧ b = d)) ∨ (aheadI a b c d = false ∧ aheadI c d a b = false ∧ c = a ∧ d = b) := by
  unfold aheadI
  simp only [decide_eq_true_eq, decide_eq_false_iff_not]
  omega
theorem num_ahead {a b c d : Int} (h : 0 ≤ a ∧ a ≤ 9 ∧ 1 ≤ b ∧ b ≤ 999) (k : 0 ≤ c ∧ c ≤ 9 ∧ 1 ≤ d ∧ d ≤ 999) : decide (wrap64 (wrap64 (1000 * a) + b) < wrap64 (wrap64 (1000 * c) + d)) = aheadI a b c d := by
  have e1 : wrap64 (1000 * a) = 1000 * a := by unfold wrap64; omega
  have e2 : wrap64 (1000 * c) = 1000 * c := by unfold wrap64; omega
  have e3 : wrap64 (1000 * a + b) = 1000 * a + b := by unfold wrap64; omega
  have e4 : wrap64 (1000 * c + d) = 1000 * c + d := by unfold wrap64; omega
  rw [e1, e2, e3, e4]
  unfold aheadI
  rw [decide_eq_decide]
  omega
set_option maxRecDepth 100000 in
set_option maxHeartbeats 8000000 in
theorem orderSame_walk (v : Value) (o : Od) (u : Value) (v' : Value) (r : Od) (u' : Value) (w : World) (hv : v = o.val u ∧ OdI w o u) (hv' : v' = r.val u' ∧ OdI w r u') :
    Calls Try.prog 7 #[v, v'] w (RetTrue w) := by
  obtain ⟨rfl, aok, agok, alg⟩ := hv
  obtain ⟨rfl, bok, bgok, blg⟩ := hv'
  obtain ⟨aA, aC, rfl, alc, acm⟩ := alg.form
  obtain ⟨bA, bC, rfl, blc, bcm⟩ := blg.form
  obtain ⟨acl, asq, akd, aac, ape, asm, aL, apr, ahd, ant⟩ := o
  obtain ⟨bcl, bsq, bkd, bac, bpe, bsm, bL, bpr, bhd, bnt⟩ := r
  have hla := alg.take 10
  have hlb := blg.take 10
  have hapk : Od.ok ⟨acl, asq, akd, aac, ape, asm, (aL.take 10), apr, ahd, ant⟩ := aok
  have hbpk : Od.ok ⟨bcl, bsq, bkd, bac, bpe, bsm, (bL.take 10), bpr, bhd, bnt⟩ := bok
  have hapg : ∀ g ∈ aL.take 10, g.ok := fun g hg => agok g (List.mem_of_mem_take hg)
  have hbpg : ∀ g ∈ bL.take 10, g.ok := fun g hg => bgok g (List.mem_of_mem_take hg)
  have HYA : Hid (∀ W, Below w.heap.size w W → Calls Try.prog 11 #[.agg #[.int .i64 acl, .int .i64 asq, .int .i64 akd, .string aac, .string ape, .int .i64 asm, .slice aA (min aL.length 10) aC, .int .i64 apr, .int .i64 ahd, .string ant]] W (RetBE (obL ⟨acl, asq, akd, aac, ape, asm, (aL.take 10), apr, ahd, ant⟩) (obE ⟨acl, asq, akd, aac, ape, asm, (aL.take 10), apr, ahd, ant⟩) W)) := fun W hW => obytes_any _ ⟨acl, asq, akd, aac, ape, asm, (aL.take 10), apr, ahd, ant⟩ _ W hapk (hla.below hW)
  have HYB : Hid (∀ W, Below w.heap.size w W → Calls Try.prog 11 #[.agg #[.int .i64 bcl, .int .i64 bsq, .int .i64 bkd, .string bac, .string bpe, .int .i64 bsm, .slice bA (min bL.length 10) bC, .int .i64 bpr, .int .i64 bhd, .string bnt]] W (RetBE (obL ⟨bcl, bsq, bkd, bac, bpe, bsm, (bL.take 10), bpr, bhd, bnt⟩) (obE ⟨bcl, bsq, bkd, bac, bpe, bsm, (bL.take 10), bpr, bhd, bnt⟩) W)) := fun W hW => obytes_any _ ⟨bcl, bsq, bkd, bac, bpe, bsm, (bL.take 10), bpr, bhd, bnt⟩ _ W hbpk (hlb.below hW)
  have HAA : Hid (∀ W, Below w.heap.size w W → Calls Try.prog 25 #[.agg #[.int .i64 acl, .int .i64 asq, .int .i64 akd, .string aac, .string ape, .int .i64 asm, .slice aA (min aL.length 10) aC, .int .i64 apr, .int .i64 ahd, .string ant], .agg #[.int .i64 acl, .int .i64 asq, .int .i64 akd, .string aac, .string ape, .int .i64 asm, .slice aA (min aL.length 10) aC, .int .i64 apr, .int .i64 ahd, .string ant]] W fun e w' => e = .returned (.bool true) ∧ Fr No W w') := fun W hW => by
    have h := osame_any _ _ ⟨acl, asq, akd, aac, ape, asm, (aL.take 10), apr, ahd, ant⟩ ⟨acl, asq, akd, aac, ape, asm, (aL.take 10), apr, ahd, ant⟩ _ _ W (hla.below hW) (hla.below hW)
    rw [(eqO_iff _ _).2 rfl] at h
    exact h
  have HAB : Hid (∀ W, Below w.heap.size w W → Calls Try.prog 25 #[.agg #[.int .i64 acl, .int .i64 asq, .int .i64 akd, .string aac, .string ape, .int .i64 asm, .slice aA (min aL.length 10) aC, .int .i64 apr, .int .i64 ahd, .string ant], .agg #[.int .i64 bcl, .int .i64 bsq, .int .i64 bkd, .string bac, .string bpe, .int .i64 bsm, .slice bA (min bL.length 10) bC, .int .i64 bpr, .int .i64 bhd, .string bnt]] W fun e w' => e = .returned (.bool (eqO ⟨acl, asq, akd, aac, ape, asm, (aL.take 10), apr, ahd, ant⟩ ⟨bcl, bsq, bkd, bac, bpe, bsm, (bL.take 10), bpr, bhd, bnt⟩)) ∧ Fr No W w') := fun W hW =>
    osame_any _ _ ⟨acl, asq, akd, aac, ape, asm, (aL.take 10), apr, ahd, ant⟩ ⟨bcl, bsq, bkd, bac, bpe, bsm, (bL.take 10), bpr, bhd, bnt⟩ _ _ W (hla.below hW) (hlb.below hW)
  have HBA : Hid (∀ W, Below w.heap.size w W → Calls Try.prog 25 #[.agg #[.int .i64 bcl, .int .i64 bsq, .int .i64 bkd, .string bac, .string bpe, .int .i64 bsm, .slice bA (min bL.length 10) bC, .int .i64 bpr, .int .i64 bhd, .string bnt], .agg #[.int .i64 acl, .int .i64 asq, .int .i64 akd, .string aac, .string ape, .int .i64 asm, .slice aA (min aL.length 10) aC, .int .i64 apr, .int .i64 ahd, .string ant]] W fun e w' => e = .returned (.bool (eqO ⟨acl, asq, akd, aac, ape, asm, (aL.take 10), apr, ahd, ant⟩ ⟨bcl, bsq, bkd, bac, bpe, bsm, (bL.take 10), bpr, bhd, bnt⟩)) ∧ Fr No W w') := fun W hW => by
    have h := osame_any _ _ ⟨bcl, bsq, bkd, bac, bpe, bsm, (bL.take 10), bpr, bhd, bnt⟩ ⟨acl, asq, akd, aac, ape, asm, (aL.take 10), apr, ahd, ant⟩ _ _ W (hlb.below hW) (hla.below hW)
    rw [eqO_comm] at h
    exact h
  have HYY : Hid ((obE ⟨acl, asq, akd, aac, ape, asm, (aL.take 10), apr, ahd, ant⟩ = 0 ∧ obE ⟨bcl, bsq, bkd, bac, bpe, bsm, (bL.take 10), bpr, bhd, bnt⟩ = 0 ∧ eqO ⟨acl, asq, akd, aac, ape, asm, (aL.take 10), apr, ahd, ant⟩ ⟨bcl, bsq, bkd, bac, bpe, bsm, (bL.take 10), bpr, bhd, bnt⟩ = decide (obL ⟨acl, asq, akd, aac, ape, asm, (aL.take 10), apr, ahd, ant⟩ = obL ⟨bcl, bsq, bkd, bac, bpe, bsm, (bL.take 10), bpr, bhd, bnt⟩) ∧ decide (wrap64 (wrap64 (1000 * acl) + asq) < wrap64 (wrap64 (1000 * bcl) + bsq)) = aheadI acl asq bcl bsq) ∨ (obE ⟨acl, asq, akd, aac, ape, asm, (aL.take 10), apr, ahd, ant⟩ = 0 ∧ obE ⟨bcl, bsq, bkd, bac, bpe, bsm, (bL.take 10), bpr, bhd, bnt⟩ = 1) ∨ obE ⟨acl, asq, akd, aac, ape, asm, (aL.take 10), apr, ahd, ant⟩ = 1) := by
    rcases oe_case ⟨acl, asq, akd, aac, ape, asm, (aL.take 10), apr, ahd, ant⟩ with ⟨h1, h2⟩ | h1
    · rcases oe_case ⟨bcl, bsq, bkd, bac, bpe, bsm, (bL.take 10), bpr, bhd, bnt⟩ with ⟨k1, k2⟩ | k1
      · exact .inl ⟨h1, k1, same_bytes h1 k1 hapk hbpk hapg hbpg, num_ahead h2 k2⟩
      · exact .inr (.inl ⟨h1, k1⟩)
    · exact .inr (.inr h1)
  clear hla hlb hapk hbpk hapg hbpg aok agok alg bok bgok blg
  generalize hXA : obL ⟨acl, asq, akd, aac, ape, asm, (aL.take 10), apr, ahd, ant⟩ = XA at *
  generalize hYA : obE ⟨acl, asq, akd, aac, ape, asm, (aL.take 10), apr, ahd, ant⟩ = YA at *
  generalize hXB : obL ⟨bcl, bsq, bkd, bac, bpe, bsm, (bL.take 10), bpr, bhd, bnt⟩ = XB at *
  generalize hYB : obE ⟨bcl, bsq, bkd, bac, bpe, bsm, (bL.take 10), bpr, bhd, bnt⟩ = YB at *
  generalize eqO ⟨acl, asq, akd, aac, ape, asm, (aL.take 10), apr, ahd, ant⟩ ⟨bcl, bsq, bkd, bac, bpe, bsm, (bL.take 10), bpr, bhd, bnt⟩ = sm at *
  clear hXA hYA hXB hYB
  have HFA : Hid (∀ W, Calls Try.prog _ _ W _) := fun W => few_det acl asq akd aac ape asm aL aA aC apr ahd ant W alc
  have HFB : Hid (∀ W, Calls Try.prog _ _ W _) := fun W => few_det bcl bsq bkd bac bpe bsm bL bA bC bpr bhd bnt W blc
  have hpa := (Blk.new w 26 #[.int .i64 acl, .int .i64 asq, .int .i64 akd, .string aac, .string ape, .int .i64 asm, .slice aA aL.length aC, .int .i64 apr, .int .i64 ahd, .string ant]).alloc (.cells #[.int .i64 bcl, .int .i64 bsq, .int .i64 bkd, .string bac, .string bpe, .int .i64 bsm, .slice bA bL.length bC, .int .i64 bpr, .int .i64 bhd, .string bnt] 26)
  have hpb := Blk.new (w.alloc (.cells #[.int .i64 acl, .int .i64 asq, .int .i64 akd, .string aac, .string ape, .int .i64 asm, .slice aA aL.length aC, .int .i64 apr, .int .i64 ahd, .string ant] 26)) 26 #[.int .i64 bcl, .int .i64 bsq, .int .i64 bkd, .string bac, .string bpe, .int .i64 bsm, .slice bA bL.length bC, .int .i64 bpr, .int .i64 bhd, .string bnt]
  rw [World.size_alloc] at hpb
  have hf0 : Fr No w ((w.alloc (.cells #[.int .i64 acl, .int .i64 asq, .int .i64 akd, .string aac, .string ape, .int .i64 asm, .slice aA aL.length aC, .int .i64 apr, .int .i64 ahd, .string ant] 26)).alloc (.cells #[.int .i64 bcl, .int .i64 bsq, .int .i64 bkd, .string bac, .string bpe, .int .i64 bsm, .slice bA bL.length bC, .int .i64 bpr, .int .i64 bhd, .string bnt] 26)) := ((Fr.refl _ _).alloc _).alloc _
  unfold Od.val Od.cs
  simp only
  go_enter Try.func7, Try.ntmps7
  go_upto_region 1 with (fail)
  generalize ((w.alloc (.cells #[.int .i64 acl, .int .i64 asq, .int .i64 akd, .string aac, .string ape, .int .i64 asm, .slice aA aL.length aC, .int .i64 apr, .int .i64 ahd, .string ant] 26)).alloc (.cells #[.int .i64 bcl, .int .i64 bsq, .int .i64 bkd, .string bac, .string bpe, .int .i64 bsm, .slice bA bL.length bC, .int .i64 bpr, .int .i64 bhd, .string bnt] 26)) = w0 at *
  go_wp2_with fail
  refine (lives6 _).mono ?_
  rintro e w1 ⟨rfl, hb1⟩
  have ha1 := hpa.below hb1 hpa.lt
  have hc1 := hpb.below hb1 hpb.lt
  have HB1 : Hid (Below w.heap.size w w1) := hf0.belowNo.trans (hb1.mono hf0.size)
  clear hpa hpb hf0 hb1
  go_upto_region 3 with (fail)
  have hd : Fr No w1 w1.drew := (Fr.refl No w1).drew
  have hA : Blk w1.drew w.heap.size 26 #[.int .i64 acl, .int .i64 asq, .int .i64 akd, .string aac, .string ape, .int .i64 asm, .slice aA aL.length aC, .int .i64 apr, .int .i64 ahd, .string ant] := ha1.fr hd (fun h => h)
  have hB : Blk w1.drew (w.heap.size + 1) 26 #[.int .i64 bcl, .int .i64 bsq, .int .i64 bkd, .string bac, .string bpe, .int .i64 bsm, .slice bA bL.length bC, .int .i64 bpr, .int .i64 bhd, .string bnt] := hc1.fr hd (fun h => h)
  have x0 := hA.cell 0
  have x1 := hA.cell 1
  have x2 := hA.cell 2
  have x3 := hA.cell 3
  have x4 := hA.cell 4
  have x5 := hA.cell 5
  have x6 := hA.cell 6
  have x7 := hA.cell 7
  have x8 := hA.cell 8
  have x9 := hA.cell 9
  simp only [List.getElem?_toArray, List.getElem?_cons_zero, List.getElem?_cons_succ] at x0 x1 x2 x3 x4 x5 x6 x7 x8 x9
  have y0 := hB.cell 0
  have y1 := hB.cell 1
  have y2 := hB.cell 2
  have y3 := hB.cell 3
  have y4 := hB.cell 4
  have y5 := hB.cell 5
  have y6 := hB.cell 6
  have y7 := hB.cell 7
  have y8 := hB.cell 8
  have y9 := hB.cell 9
  simp only [List.getElem?_toArray, List.getElem?_cons_zero, List.getElem?_cons_succ] at y0 y1 y2 y3 y4 y5 y6 y7 y8 y9
  apply region_meet (fun W => Blk W w.heap.size 26 #[.int .i64 acl, .int .i64 asq, .int .i64 akd, .string aac, .string ape, .int .i64 asm, .slice aA (min aL.length 10) aC, .int .i64 apr, .int .i64 ahd, .string ant] ∧ Blk W (w.heap.size + 1) 26 #[.int .i64 bcl, .int .i64 bsq, .int .i64 bkd, .string bac, .string bpe, .int .i64 bsm, .slice bA (min bL.length 10) bC, .int .i64 bpr, .int .i64 bhd, .string bnt] ∧ Below w.heap.size w W)
  case h =>
    refine wp_region_held_drew (S := fun _ => True) (by kernel_rfl) True.intro (fun hH0 => ?_)
    refine wpAnyH_ready (rs := [0, 2]) (by kernel_rfl) (by simp) ?_
    refine AllReadyH.cons rfl (fun K hK => ?_) ?_
    · go_simp
      refine hK.out _ _ ?_ (fun hH1 => ?_)
      · exact True.intro
      clear hK K
      (try simp only [Act.put, List.getElem_toArray, List.getElem_cons_zero, List.getElem_cons_succ, List.setIfInBounds_toArray, List.set_cons_zero, List.set_cons_succ])
      refine wpAnyH_ready (rs := [1, 2]) (by kernel_rfl) (by simp) ?_
      refine AllReadyH.cons rfl (fun K hK => ?_) ?_
      · go_simp
        (with_reducible refine (HFA.out _).mono ?_)
        rintro e u1 ⟨rfl, hf1⟩
        have hg1 := Fr.trans (Fr.refl No _) hf1
        have hB1 := hB.fr hg1 (fun h => h)
        have z0 := hB1.cell 0
        have z1 := hB1.cell 1
        have z2 := hB1.cell 2
        have z3 := hB1.cell 3
        have z4 := hB1.cell 4
        have z5 := hB1.cell 5
        have z6 := hB1.cell 6
        have z7 := hB1.cell 7
        have z8 := hB1.cell 8
        have z9 := hB1.cell 9
        simp only [List.getElem?_toArray, List.getElem?_cons_zero, List.getElem?_cons_succ] at z0 z1 z2 z3 z4 z5 z6 z7 z8 z9
        refine hK.out _ _ ?_ (fun hH2 => ?_)
        · exact True.intro
        clear hK K
        (try simp only [Act.put, List.getElem_toArray, List.getElem_cons_zero, List.getElem_cons_succ, List.setIfInBounds_toArray, List.set_cons_zero, List.set_cons_succ])
        refine wpAnyH_ready (rs := [2]) (by kernel_rfl) (by simp) ?_
        refine AllReadyH.cons rfl (fun K hK => ?_) ?_
        · go_simp
          refine hK.out _ _ ?_ (fun hH3 => ?_)
          · exact True.intro
          clear hK K
          (try simp only [Act.put, List.getElem_toArray, List.getElem_cons_zero, List.getElem_cons_succ, List.setIfInBounds_toArray, List.set_cons_zero, List.set_cons_succ])
          refine wpAnyH_ready (rs := [3]) (by kernel_rfl) (by simp) ?_
          refine AllReadyH.cons rfl (fun K hK => ?_) ?_
          · go_simp
            (with_reducible refine (HFB.out _).mono ?_)
            rintro e u2 ⟨rfl, hf2⟩
            have hg2 := Fr.trans hg1 hf2
            have hA2 := hA.fr hg2 (fun h => h)
            have hB2 := hB.fr hg2 (fun h => h)
            have p0 := hA2.cell 0
            have p1 := hA2.cell 1
            have p2 := hA2.cell 2
            have p3 := hA2.cell 3
            have p4 := hA2.cell 4
            have p5 := hA2.cell 5
            have p6 := hA2.cell 6
            have p7 := hA2.cell 7
            have p8 := hA2.cell 8
            have p9 := hA2.cell 9
            simp only [List.getElem?_toArray, List.getElem?_cons_zero, List.getElem?_cons_succ] at p0 p1 p2 p3 p4 p5 p6 p7 p8 p9
            have q0 := hB2.cell 0
            have q1 := hB2.cell 1
            have q2 := hB2.cell 2
            have q3 := hB2.cell 3
            have q4 := hB2.cell 4
            have q5 := hB2.cell 5
            have q6 := hB2.cell 6
            have q7 := hB2.cell 7
            have q8 := hB2.cell 8
            have q9 := hB2.cell 9
            simp only [List.getElem?_toArray, List.getElem?_cons_zero, List.getElem?_cons_succ] at q0 q1 q2 q3 q4 q5 q6 q7 q8 q9
            have g0 := hA2.frozen 0
            have g1 := hA2.frozen 1
            have g2 := hA2.frozen 2
            have g3 := hA2.frozen 3
            have g4 := hA2.frozen 4
            have g5 := hA2.frozen 5
            have g6 := hA2.frozen 6
            have g7 := hA2.frozen 7
            have g8 := hA2.frozen 8
            have g9 := hA2.frozen 9
            have k0 := hB2.frozen 0
            have k1 := hB2.frozen 1
            have k2 := hB2.frozen 2
            have k3 := hB2.frozen 3
            have k4 := hB2.frozen 4
            have k5 := hB2.frozen 5
            have k6 := hB2.frozen 6
            have k7 := hB2.frozen 7
            have k8 := hB2.frozen 8
            have k9 := hB2.frozen 9
            go_simp
            refine hK.out _ _ ?_ (fun hH4 => ?_)
            · exact True.intro
            clear hK K
            (try simp only [Act.put, List.getElem_toArray, List.getElem_cons_zero, List.getElem_cons_succ, List.setIfInBounds_toArray, List.set_cons_zero, List.set_cons_succ])
            refine wpAnyH_ready (rs := [4]) (by kernel_rfl) (by simp) ?_
            refine AllReadyH.cons rfl (fun K hK => ?_) ?_
            · go_simp
              refine hK.out _ _ ?_ (fun hH5 => ?_)
              · exact True.intro
              clear hK K
              (try simp only [Act.put, List.getElem_toArray, List.getElem_cons_zero, List.getElem_cons_succ, List.setIfInBounds_toArray, List.set_cons_zero, List.set_cons_succ])
              refine wpAnyH_ready (rs := [5]) (by kernel_rfl) (by simp) ?_
              refine AllReadyH.cons rfl (fun K hK => ?_) ?_
              · go_simp
                refine hK.out _ _ ?_ (fun hH6 => ?_)
                · exact True.intro
                clear hK K
                (try simp only [Act.put, List.getElem_toArray, List.getElem_cons_zero, List.getElem_cons_succ, List.setIfInBounds_toArray, List.set_cons_zero, List.set_cons_succ])
                refine wpAnyH_done (by kernel_rfl) ?_ _
                obtain ⟨hA3, hf3⟩ := set10 hA2 (.int .i64 acl) (.int .i64 asq) (.int .i64 akd) (.string aac) (.string ape) (.int .i64 asm) (.slice aA (min aL.length 10) aC) (.int .i64 apr) (.int .i64 ahd) (.string ant)
                have hB3 := hB2.fr hf3 (fun h => by rw [At1] at h; omega)
                obtain ⟨hB4, hf4⟩ := set10 hB3 (.int .i64 bcl) (.int .i64 bsq) (.int .i64 bkd) (.string bac) (.string bpe) (.int .i64 bsm) (.slice bA (min bL.length 10) bC) (.int .i64 bpr) (.int .i64 bhd) (.string bnt)
                have hA4 := hA3.fr hf4 (fun h => by rw [At1] at h; omega)
                have hbw : Below w.heap.size w u2 := below_fr_no HB1.out (hd.trans hg2) HB1.out.size
                have hbw3 := below_fr hbw hf3 hbw.size (fun i hi => by rw [At1] at hi; omega)
                exact ⟨rfl, hA4, hB4, below_fr hbw3 hf4 hbw3.size (fun i hi => by rw [At1] at hi; omega)⟩
              exact AllReadyH.nil
            exact AllReadyH.nil
          exact AllReadyH.nil
        exact AllReadyH.nil
      refine AllReadyH.cons rfl (fun K hK => ?_) ?_
      · go_simp
        refine hK.out _ _ ?_ (fun hH2 => ?_)
        · exact True.intro
        clear hK K
        (try simp only [Act.put, List.getElem_toArray, List.getElem_cons_zero, List.getElem_cons_succ, List.setIfInBounds_toArray, List.set_cons_zero, List.set_cons_succ])
        refine wpAnyH_ready (rs := [1]) (by kernel_rfl) (by simp) ?_
        refine AllReadyH.cons rfl (fun K hK => ?_) ?_
        · go_simp
          (with_reducible refine (HFA.out _).mono ?_)
          rintro e u1 ⟨rfl, hf1⟩
          have hg1 := Fr.trans (Fr.refl No _) hf1
          have hB1 := hB.fr hg1 (fun h => h)
          have z0 := hB1.cell 0
          have z1 := hB1.cell 1
          have z2 := hB1.cell 2
          have z3 := hB1.cell 3
          have z4 := hB1.cell 4
          have z5 := hB1.cell 5
          have z6 := hB1.cell 6
          have z7 := hB1.cell 7
          have z8 := hB1.cell 8
          have z9 := hB1.cell 9
          simp only [List.getElem?_toArray, List.getElem?_cons_zero, List.getElem?_cons_succ] at z0 z1 z2 z3 z4 z5 z6 z7 z8 z9
          refine hK.out _ _ ?_ (fun hH3 => ?_)
          · exact True.intro
          clear hK K
          (try simp only [Act.put, List.getElem_toArray, List.getElem_cons_zero, List.getElem_cons_succ, List.setIfInBounds_toArray, List.set_cons_zero, List.set_cons_succ])
          refine wpAnyH_ready (rs := [3]) (by kernel_rfl) (by simp) ?_
          refine AllReadyH.cons rfl (fun K hK => ?_) ?_
          · go_simp
            (with_reducible refine (HFB.out _).mono ?_)
            rintro e u2 ⟨rfl, hf2⟩
            have hg2 := Fr.trans hg1 hf2
            have hA2 := hA.fr hg2 (fun h => h)
            have hB2 := hB.fr hg2 (fun h => h)
            have p0 := hA2.cell 0
            have p1 := hA2.cell 1
            have p2 := hA2.cell 2
            have p3 := hA2.cell 3
            have p4 := hA2.cell 4
            have p5 := hA2.cell 5
            have p6 := hA2.cell 6
            have p7 := hA2.cell 7
            have p8 := hA2.cell 8
            have p9 := hA2.cell 9
            simp only [List.getElem?_toArray, List.getElem?_cons_zero, List.getElem?_cons_succ] at p0 p1 p2 p3 p4 p5 p6 p7 p8 p9
            have q0 := hB2.cell 0
            have q1 := hB2.cell 1
            have q2 := hB2.cell 2
            have q3 := hB2.cell 3
            have q4 := hB2.cell 4
            have q5 := hB2.cell 5
            have q6 := hB2.cell 6
            have q7 := hB2.cell 7
            have q8 := hB2.cell 8
            have q9 := hB2.cell 9
            simp only [List.getElem?_toArray, List.getElem?_cons_zero, List.getElem?_cons_succ] at q0 q1 q2 q3 q4 q5 q6 q7 q8 q9
            have g0 := hA2.frozen 0
            have g1 := hA2.frozen 1
            have g2 := hA2.frozen 2
            have g3 := hA2.frozen 3
            have g4 := hA2.frozen 4
            have g5 := hA2.frozen 5
            have g6 := hA2.frozen 6
            have g7 := hA2.frozen 7
            have g8 := hA2.frozen 8
            have g9 := hA2.frozen 9
            have k0 := hB2.frozen 0
            have k1 := hB2.frozen 1
            have k2 := hB2.frozen 2
            have k3 := hB2.frozen 3
            have k4 := hB2.frozen 4
            have k5 := hB2.frozen 5
            have k6 := hB2.frozen 6
            have k7 := hB2.frozen 7
            have k8 := hB2.frozen 8
            have k9 := hB2.frozen 9
            go_simp
            refine hK.out _ _ ?_ (fun hH4 => ?_)
            · exact True.intro
            clear hK K
            (try simp only [Act.put, List.getElem_toArray, List.getElem_cons_zero, List.getElem_cons_succ, List.setIfInBounds_toArray, List.set_cons_zero, List.set_cons_succ])
            refine wpAnyH_ready (rs := [4]) (by kernel_rfl) (by simp) ?_
            refine AllReadyH.cons rfl (fun K hK => ?_) ?_
            · go_simp
              refine hK.out _ _ ?_ (fun hH5 => ?_)
              · exact True.intro
              clear hK K
              (try simp only [Act.put, List.getElem_toArray, List.getElem_cons_zero, List.getElem_cons_succ, List.setIfInBounds_toArray, List.set_cons_zero, List.set_cons_succ])
              refine wpAnyH_ready (rs := [5]) (by kernel_rfl) (by simp) ?_
              refine AllReadyH.cons rfl (fun K hK => ?_) ?_
              · go_simp
                refine hK.out _ _ ?_ (fun hH6 => ?_)
                · exact True.intro
                clear hK K
                (try simp only [Act.put, List.getElem_toArray, List.getElem_cons_zero, List.getElem_cons_succ, List.setIfInBounds_toArray, List.set_cons_zero, List.set_cons_succ])
                refine wpAnyH_done (by kernel_rfl) ?_ _
                obtain ⟨hA3, hf3⟩ := set10 hA2 (.int .i64 acl) (.int .i64 asq) (.int .i64 akd) (.string aac) (.string ape) (.int .i64 asm) (.slice aA (min aL.length 10) aC) (.int .i64 apr) (.int .i64 ahd) (.string ant)
                have hB3 := hB2.fr hf3 (fun h => by rw [At1] at h; omega)
                obtain ⟨hB4, hf4⟩ := set10 hB3 (.int .i64 bcl) (.int .i64 bsq) (.int .i64 bkd) (.string bac) (.string bpe) (.int .i64 bsm) (.slice bA (min bL.length 10) bC) (.int .i64 bpr) (.int .i64 bhd) (.string bnt)
                have hA4 := hA3.fr hf4 (fun h => by rw [At1] at h; omega)
                have hbw : Below w.heap.size w u2 := below_fr_no HB1.out (hd.trans hg2) HB1.out.size
                have hbw3 := below_fr hbw hf3 hbw.size (fun i hi => by rw [At1] at hi; omega)
                exact ⟨rfl, hA4, hB4, below_fr hbw3 hf4 hbw3.size (fun i hi => by rw [At1] at hi; omega)⟩
              exact AllReadyH.nil
            exact AllReadyH.nil
          exact AllReadyH.nil
        exact AllReadyH.nil
      exact AllReadyH.nil
    refine AllReadyH.cons rfl (fun K hK => ?_) ?_
    · go_simp
      refine hK.out _ _ ?_ (fun hH1 => ?_)
      · exact True.intro
      clear hK K
      (try simp only [Act.put, List.getElem_toArray, List.getElem_cons_zero, List.getElem_cons_succ, List.setIfInBounds_toArray, List.set_cons_zero, List.set_cons_succ])
      refine wpAnyH_ready (rs := [0]) (by kernel_rfl) (by simp) ?_
      refine AllReadyH.cons rfl (fun K hK => ?_) ?_
      · go_simp
        refine hK.out _ _ ?_ (fun hH2 => ?_)
        · exact True.intro
        clear hK K
        (try simp only [Act.put, List.getElem_toArray, List.getElem_cons_zero, List.getElem_cons_succ, List.setIfInBounds_toArray, List.set_cons_zero, List.set_cons_succ])
        refine wpAnyH_ready (rs := [1]) (by kernel_rfl) (by simp) ?_
        refine AllReadyH.cons rfl (fun K hK => ?_) ?_
        · go_simp
          (with_reducible refine (HFA.out _).mono ?_)
          rintro e u1 ⟨rfl, hf1⟩
          have hg1 := Fr.trans (Fr.refl No _) hf1
          have hB1 := hB.fr hg1 (fun h => h)
          have z0 := hB1.cell 0
          have z1 := hB1.cell 1
          have z2 := hB1.cell 2
          have z3 := hB1.cell 3
          have z4 := hB1.cell 4
          have z5 := hB1.cell 5
          have z6 := hB1.cell 6
          have z7 := hB1.cell 7
          have z8 := hB1.cell 8
          have z9 := hB1.cell 9
          simp only [List.getElem?_toArray, List.getElem?_cons_zero, List.getElem?_cons_succ] at z0 z1 z2 z3 z4 z5 z6 z7 z8 z9
          refine hK.out _ _ ?_ (fun hH3 => ?_)
          · exact True.intro
          clear hK K
          (try simp only [Act.put, List.getElem_toArray, List.getElem_cons_zero, List.getElem_cons_succ, List.setIfInBounds_toArray, List.set_cons_zero, List.set_cons_succ])
          refine wpAnyH_ready (rs := [3]) (by kernel_rfl) (by simp) ?_
          refine AllReadyH.cons rfl (fun K hK => ?_) ?_
          · go_simp
            (with_reducible refine (HFB.out _).mono ?_)
            rintro e u2 ⟨rfl, hf2⟩
            have hg2 := Fr.trans hg1 hf2
            have hA2 := hA.fr hg2 (fun h => h)
            have hB2 := hB.fr hg2 (fun h => h)
            have p0 := hA2.cell 0
            have p1 := hA2.cell 1
            have p2 := hA2.cell 2
            have p3 := hA2.cell 3
            have p4 := hA2.cell 4
            have p5 := hA2.cell 5
            have p6 := hA2.cell 6
            have p7 := hA2.cell 7
            have p8 := hA2.cell 8
            have p9 := hA2.cell 9
            simp only [List.getElem?_toArray, List.getElem?_cons_zero, List.getElem?_cons_succ] at p0 p1 p2 p3 p4 p5 p6 p7 p8 p9
            have q0 := hB2.cell 0
            have q1 := hB2.cell 1
            have q2 := hB2.cell 2
            have q3 := hB2.cell 3
            have q4 := hB2.cell 4
            have q5 := hB2.cell 5
            have q6 := hB2.cell 6
            have q7 := hB2.cell 7
            have q8 := hB2.cell 8
            have q9 := hB2.cell 9
            simp only [List.getElem?_toArray, List.getElem?_cons_zero, List.getElem?_cons_succ] at q0 q1 q2 q3 q4 q5 q6 q7 q8 q9
            have g0 := hA2.frozen 0
            have g1 := hA2.frozen 1
            have g2 := hA2.frozen 2
            have g3 := hA2.frozen 3
            have g4 := hA2.frozen 4
            have g5 := hA2.frozen 5
            have g6 := hA2.frozen 6
            have g7 := hA2.frozen 7
            have g8 := hA2.frozen 8
            have g9 := hA2.frozen 9
            have k0 := hB2.frozen 0
            have k1 := hB2.frozen 1
            have k2 := hB2.frozen 2
            have k3 := hB2.frozen 3
            have k4 := hB2.frozen 4
            have k5 := hB2.frozen 5
            have k6 := hB2.frozen 6
            have k7 := hB2.frozen 7
            have k8 := hB2.frozen 8
            have k9 := hB2.frozen 9
            go_simp
            refine hK.out _ _ ?_ (fun hH4 => ?_)
            · exact True.intro
            clear hK K
            (try simp only [Act.put, List.getElem_toArray, List.getElem_cons_zero, List.getElem_cons_succ, List.setIfInBounds_toArray, List.set_cons_zero, List.set_cons_succ])
            refine wpAnyH_ready (rs := [4]) (by kernel_rfl) (by simp) ?_
            refine AllReadyH.cons rfl (fun K hK => ?_) ?_
            · go_simp
              refine hK.out _ _ ?_ (fun hH5 => ?_)
              · exact True.intro
              clear hK K
              (try simp only [Act.put, List.getElem_toArray, List.getElem_cons_zero, List.getElem_cons_succ, List.setIfInBounds_toArray, List.set_cons_zero, List.set_cons_succ])
              refine wpAnyH_ready (rs := [5]) (by kernel_rfl) (by simp) ?_
              refine AllReadyH.cons rfl (fun K hK => ?_) ?_
              · go_simp
                refine hK.out _ _ ?_ (fun hH6 => ?_)
                · exact True.intro
                clear hK K
                (try simp only [Act.put, List.getElem_toArray, List.getElem_cons_zero, List.getElem_cons_succ, List.setIfInBounds_toArray, List.set_cons_zero, List.set_cons_succ])
                refine wpAnyH_done (by kernel_rfl) ?_ _
                obtain ⟨hA3, hf3⟩ := set10 hA2 (.int .i64 acl) (.int .i64 asq) (.int .i64 akd) (.string aac) (.string ape) (.int .i64 asm) (.slice aA (min aL.length 10) aC) (.int .i64 apr) (.int .i64 ahd) (.string ant)
                have hB3 := hB2.fr hf3 (fun h => by rw [At1] at h; omega)
                obtain ⟨hB4, hf4⟩ := set10 hB3 (.int .i64 bcl) (.int .i64 bsq) (.int .i64 bkd) (.string bac) (.string bpe) (.int .i64 bsm) (.slice bA (min bL.length 10) bC) (.int .i64 bpr) (.int .i64 bhd) (.string bnt)
                have hA4 := hA3.fr hf4 (fun h => by rw [At1] at h; omega)
                have hbw : Below w.heap.size w u2 := below_fr_no HB1.out (hd.trans hg2) HB1.out.size
                have hbw3 := below_fr hbw hf3 hbw.size (fun i hi => by rw [At1] at hi; omega)
                exact ⟨rfl, hA4, hB4, below_fr hbw3 hf4 hbw3.size (fun i hi => by rw [At1] at hi; omega)⟩
              exact AllReadyH.nil
            exact AllReadyH.nil
          exact AllReadyH.nil
        exact AllReadyH.nil
      exact AllReadyH.nil
    exact AllReadyH.nil
  case k =>
    rintro w3 ⟨hA3, hB3, hW3⟩
    clear hd hA hB ha1 hc1 HB1 HFA HFB x0 y0 x1 y1 x2 y2 x3 y3 x4 y4 x5 y5 x6 y6 x7 y7 x8 y8 x9 y9
    have x0 := hA3.cell 0
    have x1 := hA3.cell 1
    have x2 := hA3.cell 2
    have x3 := hA3.cell 3
    have x4 := hA3.cell 4
    have x5 := hA3.cell 5
    have x6 := hA3.cell 6
    have x7 := hA3.cell 7
    have x8 := hA3.cell 8
    have x9 := hA3.cell 9
    simp only [List.getElem?_toArray, List.getElem?_cons_zero, List.getElem?_cons_succ] at x0 x1 x2 x3 x4 x5 x6 x7 x8 x9
    have y0 := hB3.cell 0
    have y1 := hB3.cell 1
    have y2 := hB3.cell 2
    have y3 := hB3.cell 3
    have y4 := hB3.cell 4
    have y5 := hB3.cell 5
    have y6 := hB3.cell 6
    have y7 := hB3.cell 7
    have y8 := hB3.cell 8
    have y9 := hB3.cell 9
    simp only [List.getElem?_toArray, List.getElem?_cons_zero, List.getElem?_cons_succ] at y0 y1 y2 y3 y4 y5 y6 y7 y8 y9
    have HA3 := Lib.hid hA3
    have HB3 := Lib.hid hB3
    have HW3 := Lib.hid hW3
    clear hA3 hB3 hW3
    go_wp2_with fail
    refine (HYA.out w3 HW3.out).mono ?_
    rintro e w4 ⟨A4, c4, rfl, ho4, hf4⟩
    have HA4 := Lib.hid (HA3.out.fr hf4 (fun h => h))
    have HB4 := Lib.hid (HB3.out.fr hf4 (fun h => h))
    have HW4 := Lib.hid (below_fr_no HW3.out hf4 HW3.out.size)
    have HO4 := Lib.hid ho4
    clear HA3 HB3 HW3 hf4 ho4 HYA x0 y0 x1 y1 x2 y2 x3 y3 x4 y4 x5 y5 x6 y6 x7 y7 x8 y8 x9 y9
    have x0 := HA4.out.cell 0
    have x1 := HA4.out.cell 1
    have x2 := HA4.out.cell 2
    have x3 := HA4.out.cell 3
    have x4 := HA4.out.cell 4
    have x5 := HA4.out.cell 5
    have x6 := HA4.out.cell 6
    have x7 := HA4.out.cell 7
    have x8 := HA4.out.cell 8
    have x9 := HA4.out.cell 9
    simp only [List.getElem?_toArray, List.getElem?_cons_zero, List.getElem?_cons_succ] at x0 x1 x2 x3 x4 x5 x6 x7 x8 x9
    have y0 := HB4.out.cell 0
    have y1 := HB4.out.cell 1
    have y2 := HB4.out.cell 2
    have y3 := HB4.out.cell 3
    have y4 := HB4.out.cell 4
    have y5 := HB4.out.cell 5
    have y6 := HB4.out.cell 6
    have y7 := HB4.out.cell 7
    have y8 := HB4.out.cell 8
    have y9 := HB4.out.cell 9
    simp only [List.getElem?_toArray, List.getElem?_cons_zero, List.getElem?_cons_succ] at y0 y1 y2 y3 y4 y5 y6 y7 y8 y9
    go_wp2_with fail
    refine (HYB.out w4 HW4.out).mono ?_
    rintro e w5 ⟨A5, c5, rfl, ho5, hf5⟩
    have HA5 := Lib.hid (HA4.out.fr hf5 (fun h => h))
    have HB5 := Lib.hid (HB4.out.fr hf5 (fun h => h))
    have HW5 := Lib.hid (below_fr_no HW4.out hf5 HW4.out.size)
    have HO5 := Lib.hid ho5
    have HO6 := Lib.hid (ownNo HO4.out hf5)
    clear HA4 HB4 HW4 hf5 ho5 HYB HO4 x0 y0 x1 y1 x2 y2 x3 y3 x4 y4 x5 y5 x6 y6 x7 y7 x8 y8 x9 y9
    go_upto_region 6 with (fail)
    rename_i K1 a1 K0 a0
    have HK1 : Hid (∀ (l0 l1 l4 l5 l7 l9 l10 l11 l12 l13 l14 l15 l16 l17 l18 l19 l20 l21 l22 l23 l24 l25 l26 l27 l28 l29 l30 l31 l32 l33 l34 l35 l36 l37 l38 l39 l40 l41 l42 l43 l44 l45 l46 l47 l48 l49 l50 l51 l52 l53 l54 l55 l56 l57 l58 l59 l60 l61 l62 l63 l64 l65 l66 l67 l68 l69 l70 l71 l72 l73 l74 l75 l76 l77 l78 l79 l80 l81 l82 l83 l84 l85 l86 l87 l88 l89 l90 l91 l92 l93 l94 l95 l96 l97 l98 l99 l100 l101 l102 l103 l104 l105 l106 l107 l108 l109 : Value) (W : World), Blk W w.heap.size 26 #[.int .i64 acl, .int .i64 asq, .int .i64 akd, .string aac, .string ape, .int .i64 asm, .slice aA (min aL.length 10) aC, .int .i64 apr, .int .i64 ahd, .string ant] → Blk W (w.heap.size + 1) 26 #[.int .i64 bcl, .int .i64 bsq, .int .i64 bkd, .string bac, .string bpe, .int .i64 bsm, .slice bA (min bL.length 10) bC, .int .i64 bpr, .int .i64 bhd, .string bnt] → Below w.heap.size w W → K1 ⟨(l0 :: l1 :: (.pointer (some ⟨w.heap.size, 0, none⟩)) :: (.pointer (some ⟨w.heap.size + 1, 0, none⟩)) :: l4 :: l5 :: (.int .i64 YA) :: l7 :: (.int .i64 YB) :: l9 :: l10 :: l11 :: l12 :: l13 :: l14 :: l15 :: l16 :: l17 :: l18 :: l19 :: l20 :: l21 :: l22 :: l23 :: l24 :: l25 :: l26 :: l27 :: l28 :: l29 :: l30 :: l31 :: l32 :: l33 :: l34 :: l35 :: l36 :: l37 :: l38 :: l39 :: l40 :: l41 :: l42 :: l43 :: l44 :: l45 :: l46 :: l47 :: l48 :: l49 :: l50 :: l51 :: l52 :: l53 :: l54 :: l55 :: l56 :: l57 :: l58 :: l59 :: l60 :: l61 :: l62 :: l63 :: l64 :: l65 :: l66 :: l67 :: l68 :: l69 :: l70 :: l71 :: l72 :: l73 :: l74 :: l75 :: l76 :: l77 :: l78 :: l79 :: l80 :: l81 :: l82 :: l83 :: l84 :: l85 :: l86 :: l87 :: l88 :: l89 :: l90 :: l91 :: l92 :: l93 :: l94 :: l95 :: l96 :: l97 :: l98 :: l99 :: l100 :: l101 :: l102 :: l103 :: l104 :: l105 :: l106 :: l107 :: l108 :: l109 :: []).toArray, []⟩ W) := by
      intro l0 l1 l4 l5 l7 l9 l10 l11 l12 l13 l14 l15 l16 l17 l18 l19 l20 l21 l22 l23 l24 l25 l26 l27 l28 l29 l30 l31 l32 l33 l34 l35 l36 l37 l38 l39 l40 l41 l42 l43 l44 l45 l46 l47 l48 l49 l50 l51 l52 l53 l54 l55 l56 l57 l58 l59 l60 l61 l62 l63 l64 l65 l66 l67 l68 l69 l70 l71 l72 l73 l74 l75 l76 l77 l78 l79 l80 l81 l82 l83 l84 l85 l86 l87 l88 l89 l90 l91 l92 l93 l94 l95 l96 l97 l98 l99 l100 l101 l102 l103 l104 l105 l106 l107 l108 l109 W hA hB hW
      refine a1 _ _ ?_
      clear a1 a0 HA5 HB5 HW5 HO5 HO6
      have HAH1 := Lib.hid (fun W => oahead_any acl asq bcl bsq W)
      have HAH2 := Lib.hid (fun W => oahead_any bcl bsq acl asq W)
      have HRF := Lib.hid (fun W => refaheadI_any acl asq bcl bsq W)
      have hA' := hA.fr (Fr.refl No W).drew (fun h => h)
      have hd : Fr No W W.drew := (Fr.refl No W).drew
      have HX : Hid (∀ U, Fr No W U → (fun Z => Fr No W Z ∧ Z.cell? ⟨w.heap.size, 0, none⟩ = some (.int .i64 acl) ∧ Z.cell? ⟨w.heap.size, 1, none⟩ = some (.int .i64 asq) ∧ Z.cell? ⟨w.heap.size + 1, 0, none⟩ = some (.int .i64 bcl) ∧ Z.cell? ⟨w.heap.size + 1, 1, none⟩ = some (.int .i64 bsq)) U) := fun U hU => by
        have h := hA.fr hU (fun h => h)
        have k := hB.fr hU (fun h => h)
        exact ⟨hU, h.cell 0, h.cell 1, k.cell 0, k.cell 1⟩
      have HA := Lib.hid hA
      have HB := Lib.hid hB
      have HW := Lib.hid hW
      clear hA hB hW hA'
      go_upto_region 8 with (fail)
      go_region_held3 (fun Z => Fr No W Z ∧ Z.cell? ⟨w.heap.size, 0, none⟩ = some (.int .i64 acl) ∧ Z.cell? ⟨w.heap.size, 1, none⟩ = some (.int .i64 asq) ∧ Z.cell? ⟨w.heap.size + 1, 0, none⟩ = some (.int .i64 bcl) ∧ Z.cell? ⟨w.heap.size + 1, 1, none⟩ = some (.int .i64 bsq))
        (first | (refine HX.out _ ?_; with_reducible assumption))
        (first
          | (go_at_call 27; with_reducible refine (HAH1.out _).mono ?_; rintro e u1 ⟨rfl, hf1⟩; have hg1 := Fr.trans hd hf1)
          | (go_at_call 27; with_reducible refine (HAH2.out _).mono ?_; rintro e u2 ⟨rfl, hf2⟩; have hg2 := Fr.trans hg1 hf2))
      have HF2 := Lib.hid hg2
      clear hg1 hg2 hf1 hf2 HAH1 HAH2 hd HX
      generalize hx : aheadI acl asq bcl bsq = x at *
      generalize hy : aheadI bcl bsq acl asq = y at *
      have HA2 := Lib.hid (HA.out.fr HF2.out (fun h => h))
      have HB2 := Lib.hid (HB.out.fr HF2.out (fun h => h))
      have HW2 := Lib.hid (below_fr_no HW.out HF2.out HW.out.size)
      go_upto_region 9 with (fail)
      rename_i K2 a2 K3 a3
      have HK2 : Hid (∀ (m0 m1 m4 m5 m7 m10 m11 m12 m13 m14 m15 m16 m17 m18 m19 m20 m21 m22 m23 m24 m25 m26 m27 m28 m29 m30 m31 m32 m33 m34 m35 m36 m37 m38 m39 m40 m41 m42 m43 m44 m45 m46 m47 m48 m49 m50 m51 m52 m53 m54 m55 m56 m57 m58 m59 m60 m61 m62 m63 m64 m65 m66 m67 m68 m69 m70 m71 m72 m73 m74 m75 m76 m77 m78 m79 m80 m81 m82 m83 m84 m85 m86 m87 m88 m89 m90 m91 m92 m93 m94 m95 m96 m97 m98 m99 m100 m101 m102 m103 m104 m105 m106 m107 m108 m109 : Value) (U : World), Fr No u2 U → K2 ⟨(m0 :: m1 :: (.pointer (some ⟨w.heap.size, 0, none⟩)) :: (.pointer (some ⟨w.heap.size + 1, 0, none⟩)) :: m4 :: m5 :: (.int .i64 YA) :: m7 :: (.int .i64 YB) :: (.bool x) :: m10 :: m11 :: m12 :: m13 :: m14 :: m15 :: m16 :: m17 :: m18 :: m19 :: m20 :: m21 :: m22 :: m23 :: m24 :: m25 :: m26 :: m27 :: m28 :: m29 :: m30 :: m31 :: m32 :: m33 :: m34 :: m35 :: m36 :: m37 :: m38 :: m39 :: m40 :: m41 :: m42 :: m43 :: m44 :: m45 :: m46 :: m47 :: m48 :: m49 :: m50 :: m51 :: m52 :: m53 :: m54 :: m55 :: m56 :: m57 :: m58 :: m59 :: m60 :: m61 :: m62 :: m63 :: m64 :: m65 :: m66 :: m67 :: m68 :: m69 :: m70 :: m71 :: m72 :: m73 :: m74 :: m75 :: m76 :: m77 :: m78 :: m79 :: m80 :: m81 :: m82 :: m83 :: m84 :: m85 :: m86 :: m87 :: m88 :: m89 :: m90 :: m91 :: m92 :: m93 :: m94 :: m95 :: m96 :: m97 :: m98 :: m99 :: m100 :: m101 :: m102 :: m103 :: m104 :: m105 :: m106 :: m107 :: m108 :: m109 :: []).toArray, []⟩ U) := by
        intro m0 m1 m4 m5 m7 m10 m11 m12 m13 m14 m15 m16 m17 m18 m19 m20 m21 m22 m23 m24 m25 m26 m27 m28 m29 m30 m31 m32 m33 m34 m35 m36 m37 m38 m39 m40 m41 m42 m43 m44 m45 m46 m47 m48 m49 m50 m51 m52 m53 m54 m55 m56 m57 m58 m59 m60 m61 m62 m63 m64 m65 m66 m67 m68 m69 m70 m71 m72 m73 m74 m75 m76 m77 m78 m79 m80 m81 m82 m83 m84 m85 m86 m87 m88 m89 m90 m91 m92 m93 m94 m95 m96 m97 m98 m99 m100 m101 m102 m103 m104 m105 m106 m107 m108 m109 U hU
        refine a2 _ _ ?_
        have HSS : Hid (∀ Z, Fr No U Z → (fun W => Fr No U W ∧ W.cell? ⟨w.heap.size, 0, none⟩ = some (.int .i64 acl) ∧ W.cell? ⟨w.heap.size, 1, none⟩ = some (.int .i64 asq) ∧ W.cell? ⟨w.heap.size, 2, none⟩ = some (.int .i64 akd) ∧ W.cell? ⟨w.heap.size, 3, none⟩ = some (.string aac) ∧ W.cell? ⟨w.heap.size, 4, none⟩ = some (.string ape) ∧ W.cell? ⟨w.heap.size, 5, none⟩ = some (.int .i64 asm) ∧ W.cell? ⟨w.heap.size, 6, none⟩ = some (.slice aA (min aL.length 10) aC) ∧ W.cell? ⟨w.heap.size, 7, none⟩ = some (.int .i64 apr) ∧ W.cell? ⟨w.heap.size, 8, none⟩ = some (.int .i64 ahd) ∧ W.cell? ⟨w.heap.size, 9, none⟩ = some (.string ant) ∧ W.cell? ⟨w.heap.size + 1, 0, none⟩ = some (.int .i64 bcl) ∧ W.cell? ⟨w.heap.size + 1, 1, none⟩ = some (.int .i64 bsq) ∧ W.cell? ⟨w.heap.size + 1, 2, none⟩ = some (.int .i64 bkd) ∧ W.cell? ⟨w.heap.size + 1, 3, none⟩ = some (.string bac) ∧ W.cell? ⟨w.heap.size + 1, 4, none⟩ = some (.string bpe) ∧ W.cell? ⟨w.heap.size + 1, 5, none⟩ = some (.int .i64 bsm) ∧ W.cell? ⟨w.heap.size + 1, 6, none⟩ = some (.slice bA (min bL.length 10) bC) ∧ W.cell? ⟨w.heap.size + 1, 7, none⟩ = some (.int .i64 bpr) ∧ W.cell? ⟨w.heap.size + 1, 8, none⟩ = some (.int .i64 bhd) ∧ W.cell? ⟨w.heap.size + 1, 9, none⟩ = some (.string bnt)) Z) := fun Z hZ => by
          have h := (HA2.out.fr hU (fun h => h)).fr hZ (fun h => h)
          have k := (HB2.out.fr hU (fun h => h)).fr hZ (fun h => h)
          exact ⟨hZ, h.cell 0, h.cell 1, h.cell 2, h.cell 3, h.cell 4, h.cell 5, h.cell 6, h.cell 7, h.cell 8, h.cell 9, k.cell 0, k.cell 1, k.cell 2, k.cell 3, k.cell 4, k.cell 5, k.cell 6, k.cell 7, k.cell 8, k.cell 9⟩
        have HBF : Hid (∀ Z, Fr No U Z → Below w.heap.size w Z) := fun Z hZ => below_fr_no (below_fr_no HW2.out hU HW2.out.size) hZ (below_fr_no HW2.out hU HW2.out.size).size
        have HNA := Lib.hid (fun W => onumber_any acl asq W)
        have HNB := Lib.hid (fun W => onumber_any bcl bsq W)
        have hg0 : Fr No U U.drew := (Fr.refl No U).drew
        clear a2 a3 HA2 HB2 HW2 HF2 HA HB HW HRF hx hy
        go_upto_region 11 with (fail)
        rcases HYY.out with ⟨rfl, rfl, h3, h4⟩ | ⟨rfl, rfl⟩ | rfl
        · have HNN := Lib.hid h4
          clear h3 h4 HYY
          refine wp_region_held_drew (S := fun W => Fr No U W ∧ W.cell? ⟨w.heap.size, 0, none⟩ = some (.int .i64 acl) ∧ W.cell? ⟨w.heap.size, 1, none⟩ = some (.int .i64 asq) ∧ W.cell? ⟨w.heap.size, 2, none⟩ = some (.int .i64 akd) ∧ W.cell? ⟨w.heap.size, 3, none⟩ = some (.string aac) ∧ W.cell? ⟨w.heap.size, 4, none⟩ = some (.string ape) ∧ W.cell? ⟨w.heap.size, 5, none⟩ = some (.int .i64 asm) ∧ W.cell? ⟨w.heap.size, 6, none⟩ = some (.slice aA (min aL.length 10) aC) ∧ W.cell? ⟨w.heap.size, 7, none⟩ = some (.int .i64 apr) ∧ W.cell? ⟨w.heap.size, 8, none⟩ = some (.int .i64 ahd) ∧ W.cell? ⟨w.heap.size, 9, none⟩ = some (.string ant) ∧ W.cell? ⟨w.heap.size + 1, 0, none⟩ = some (.int .i64 bcl) ∧ W.cell? ⟨w.heap.size + 1, 1, none⟩ = some (.int .i64 bsq) ∧ W.cell? ⟨w.heap.size + 1, 2, none⟩ = some (.int .i64 bkd) ∧ W.cell? ⟨w.heap.size + 1, 3, none⟩ = some (.string bac) ∧ W.cell? ⟨w.heap.size + 1, 4, none⟩ = some (.string bpe) ∧ W.cell? ⟨w.heap.size + 1, 5, none⟩ = some (.int .i64 bsm) ∧ W.cell? ⟨w.heap.size + 1, 6, none⟩ = some (.slice bA (min bL.length 10) bC) ∧ W.cell? ⟨w.heap.size + 1, 7, none⟩ = some (.int .i64 bpr) ∧ W.cell? ⟨w.heap.size + 1, 8, none⟩ = some (.int .i64 bhd) ∧ W.cell? ⟨w.heap.size + 1, 9, none⟩ = some (.string bnt)) (by kernel_rfl) (HSS.out _ hg0) (fun hH0 => ?_)
          refine wpAnyH_take (i := 0) (v := ?_) rfl (by kernel_rfl) (by kernel_rfl) (by kernel_rfl) (fun _ _ _ h => h) (Or.inl ⟨by rfl, ?_⟩) hH0 ?_
          rotate_left
          · (intro w hSw; (try dsimp only at hSw); go_simp; try with_reducible rfl)
          (try simp only [Act.put, List.getElem_toArray, List.getElem_cons_zero, List.getElem_cons_succ, List.setIfInBounds_toArray, List.set_cons_zero, List.set_cons_succ])
          refine wpAnyH_take (i := 1) (v := ?_) rfl (by kernel_rfl) (by kernel_rfl) (by kernel_rfl) (fun _ _ _ h => h) (Or.inl ⟨by rfl, ?_⟩) hH0 ?_
          rotate_left
          · (intro w hSw; (try dsimp only at hSw); go_simp; try with_reducible rfl)
          (try simp only [Act.put, List.getElem_toArray, List.getElem_cons_zero, List.getElem_cons_succ, List.setIfInBounds_toArray, List.set_cons_zero, List.set_cons_succ])
          refine wpAnyH_ready (rs := [2]) (by kernel_rfl) (by simp) ?_
          refine AllReadyH.cons rfl (fun K hK => ?_) ?_
          · go_simp
            (with_reducible refine (HAA.out _ (HBF.out _ hg0)).mono ?_)
            rintro e u1 ⟨rfl, hf1⟩
            have hg1 := Fr.trans hg0 hf1
            refine hK.out _ _ ?_ (fun hH1 => ?_)
            · exact HSS.out _ hg1
            clear hK K
            (try simp only [Act.put, List.getElem_toArray, List.getElem_cons_zero, List.getElem_cons_succ, List.setIfInBounds_toArray, List.set_cons_zero, List.set_cons_succ])
            refine wpAnyH_take (i := 3) (v := ?_) rfl (by kernel_rfl) (by kernel_rfl) (by kernel_rfl) (fun _ _ _ h => h) (Or.inl ⟨by rfl, ?_⟩) hH1 ?_
            rotate_left
            · (intro w hSw; (try dsimp only at hSw); go_simp; try with_reducible rfl)
            (try simp only [Act.put, List.getElem_toArray, List.getElem_cons_zero, List.getElem_cons_succ, List.setIfInBounds_toArray, List.set_cons_zero, List.set_cons_succ])
            refine wpAnyH_take (i := 4) (v := ?_) rfl (by kernel_rfl) (by kernel_rfl) (by kernel_rfl) (fun _ _ _ h => h) (Or.inl ⟨by rfl, ?_⟩) hH1 ?_
            rotate_left
            · (intro w hSw; (try dsimp only at hSw); go_simp; try with_reducible rfl)
            (try simp only [Act.put, List.getElem_toArray, List.getElem_cons_zero, List.getElem_cons_succ, List.setIfInBounds_toArray, List.set_cons_zero, List.set_cons_succ])
            refine wpAnyH_take (i := 5) (v := ?_) rfl (by kernel_rfl) (by kernel_rfl) (by kernel_rfl) (fun _ _ _ h => h) (Or.inl ⟨by rfl, ?_⟩) hH1 ?_
            rotate_left
            · (intro w hSw; (try dsimp only at hSw); go_simp; try with_reducible rfl)
            (try simp only [Act.put, List.getElem_toArray, List.getElem_cons_zero, List.getElem_cons_succ, List.setIfInBounds_toArray, List.set_cons_zero, List.set_cons_succ])
            refine wpAnyH_take (i := 7) (v := ?_) rfl (by kernel_rfl) (by kernel_rfl) (by kernel_rfl) (fun _ _ _ h => h) (Or.inl ⟨by rfl, ?_⟩) hH1 ?_
            rotate_left
            · (intro w hSw; (try dsimp only at hSw); go_simp; try with_reducible rfl)
            (try simp only [Act.put, List.getElem_toArray, List.getElem_cons_zero, List.getElem_cons_succ, List.setIfInBounds_toArray, List.set_cons_zero, List.set_cons_succ])
            refine wpAnyH_take (i := 8) (v := ?_) rfl (by kernel_rfl) (by kernel_rfl) (by kernel_rfl) (fun _ _ _ h => h) (Or.inl ⟨by rfl, ?_⟩) hH1 ?_
            rotate_left
            · (intro w hSw; (try dsimp only at hSw); go_simp; try with_reducible rfl)
            (try simp only [Act.put, List.getElem_toArray, List.getElem_cons_zero, List.getElem_cons_succ, List.setIfInBounds_toArray, List.set_cons_zero, List.set_cons_succ])
            refine wpAnyH_ready (rs := [6]) (by kernel_rfl) (by simp) ?_
            refine AllReadyH.cons rfl (fun K hK => ?_) ?_
            · go_simp
              (with_reducible refine (HAB.out _ (HBF.out _ hg1)).mono ?_)
              rintro e u2 ⟨rfl, hf2⟩
              have hg2 := Fr.trans hg1 hf2
              refine hK.out _ _ ?_ (fun hH2 => ?_)
              · exact HSS.out _ hg2
              clear hK K
              (try simp only [Act.put, List.getElem_toArray, List.getElem_cons_zero, List.getElem_cons_succ, List.setIfInBounds_toArray, List.set_cons_zero, List.set_cons_succ])
              refine wpAnyH_ready (rs := [9]) (by kernel_rfl) (by simp) ?_
              refine AllReadyH.cons rfl (fun K hK => ?_) ?_
              · go_simp
                (with_reducible refine (HBA.out _ (HBF.out _ hg2)).mono ?_)
                rintro e u3 ⟨rfl, hf3⟩
                have hg3 := Fr.trans hg2 hf3
                refine hK.out _ _ ?_ (fun hH3 => ?_)
                · exact HSS.out _ hg3
                clear hK K
                (try simp only [Act.put, List.getElem_toArray, List.getElem_cons_zero, List.getElem_cons_succ, List.setIfInBounds_toArray, List.set_cons_zero, List.set_cons_succ])
                refine wpAnyH_take (i := 10) (v := ?_) rfl (by kernel_rfl) (by kernel_rfl) (by kernel_rfl) (fun _ _ _ h => h) (Or.inl ⟨by rfl, ?_⟩) hH3 ?_
                rotate_left
                · (intro w hSw; (try dsimp only at hSw); go_simp; try with_reducible rfl)
                (try simp only [Act.put, List.getElem_toArray, List.getElem_cons_zero, List.getElem_cons_succ, List.setIfInBounds_toArray, List.set_cons_zero, List.set_cons_succ])
                refine wpAnyH_take (i := 11) (v := ?_) rfl (by kernel_rfl) (by kernel_rfl) (by kernel_rfl) (fun _ _ _ h => h) (Or.inl ⟨by rfl, ?_⟩) hH3 ?_
                rotate_left
                · (intro w hSw; (try dsimp only at hSw); go_simp; try with_reducible rfl)
                (try simp only [Act.put, List.getElem_toArray, List.getElem_cons_zero, List.getElem_cons_succ, List.setIfInBounds_toArray, List.set_cons_zero, List.set_cons_succ])
                refine wpAnyH_take (i := 12) (v := ?_) rfl (by kernel_rfl) (by kernel_rfl) (by kernel_rfl) (fun _ _ _ h => h) (Or.inl ⟨by rfl, ?_⟩) hH3 ?_
                rotate_left
                · (intro w hSw; (try dsimp only at hSw); go_simp; try with_reducible rfl)
                (try simp only [Act.put, List.getElem_toArray, List.getElem_cons_zero, List.getElem_cons_succ, List.setIfInBounds_toArray, List.set_cons_zero, List.set_cons_succ])
                refine wpAnyH_take (i := 13) (v := ?_) rfl (by kernel_rfl) (by kernel_rfl) (by kernel_rfl) (fun _ _ _ h => h) (Or.inl ⟨by rfl, ?_⟩) hH3 ?_
                rotate_left
                · (intro w hSw; (try dsimp only at hSw); go_simp; try with_reducible rfl)
                (try simp only [Act.put, List.getElem_toArray, List.getElem_cons_zero, List.getElem_cons_succ, List.setIfInBounds_toArray, List.set_cons_zero, List.set_cons_succ])
                refine wpAnyH_take (i := 14) (v := ?_) rfl (by kernel_rfl) (by kernel_rfl) (by kernel_rfl) (fun _ _ _ h => h) (Or.inl ⟨by rfl, ?_⟩) hH3 ?_
                rotate_left
                · (intro w hSw; (try dsimp only at hSw); go_simp; try with_reducible rfl)
                (try simp only [Act.put, List.getElem_toArray, List.getElem_cons_zero, List.getElem_cons_succ, List.setIfInBounds_toArray, List.set_cons_zero, List.set_cons_succ])
                refine wpAnyH_take (i := 15) (v := ?_) rfl (by kernel_rfl) (by kernel_rfl) (by kernel_rfl) (fun _ _ _ h => h) (Or.inl ⟨by rfl, ?_⟩) hH3 ?_
                rotate_left
                · (intro w hSw; (try dsimp only at hSw); go_simp; try with_reducible rfl)
                (try simp only [Act.put, List.getElem_toArray, List.getElem_cons_zero, List.getElem_cons_succ, List.setIfInBounds_toArray, List.set_cons_zero, List.set_cons_succ])
                refine wpAnyH_take (i := 16) (v := ?_) rfl (by kernel_rfl) (by kernel_rfl) (by kernel_rfl) (fun _ _ _ h => h) (Or.inl ⟨by rfl, ?_⟩) hH3 ?_
                rotate_left
                · (intro w hSw; (try dsimp only at hSw); go_simp; try with_reducible rfl)
                (try simp only [Act.put, List.getElem_toArray, List.getElem_cons_zero, List.getElem_cons_succ, List.setIfInBounds_toArray, List.set_cons_zero, List.set_cons_succ])
                refine wpAnyH_take (i := 17) (v := ?_) rfl (by kernel_rfl) (by kernel_rfl) (by kernel_rfl) (fun _ _ _ h => h) (Or.inl ⟨by rfl, ?_⟩) hH3 ?_
                rotate_left
                · (intro w hSw; (try dsimp only at hSw); go_simp; try with_reducible rfl)
                (try simp only [Act.put, List.getElem_toArray, List.getElem_cons_zero, List.getElem_cons_succ, List.setIfInBounds_toArray, List.set_cons_zero, List.set_cons_succ])
                refine wpAnyH_take (i := 18) (v := ?_) rfl (by kernel_rfl) (by kernel_rfl) (by kernel_rfl) (fun _ _ _ h => h) (Or.inl ⟨by rfl, ?_⟩) hH3 ?_
                rotate_left
                · (intro w hSw; (try dsimp only at hSw); go_simp; try with_reducible rfl)
                (try simp only [Act.put, List.getElem_toArray, List.getElem_cons_zero, List.getElem_cons_succ, List.setIfInBounds_toArray, List.set_cons_zero, List.set_cons_succ])
                refine wpAnyH_take (i := 19) (v := ?_) rfl (by kernel_rfl) (by kernel_rfl) (by kernel_rfl) (fun _ _ _ h => h) (Or.inl ⟨by rfl, ?_⟩) hH3 ?_
                rotate_left
                · (intro w hSw; (try dsimp only at hSw); go_simp; try with_reducible rfl)
                (try simp only [Act.put, List.getElem_toArray, List.getElem_cons_zero, List.getElem_cons_succ, List.setIfInBounds_toArray, List.set_cons_zero, List.set_cons_succ])
                refine wpAnyH_take (i := 20) (v := ?_) rfl (by kernel_rfl) (by kernel_rfl) (by kernel_rfl) (fun _ _ _ h => h) (Or.inl ⟨by rfl, ?_⟩) hH3 ?_
                rotate_left
                · (intro w hSw; (try dsimp only at hSw); go_simp; try with_reducible rfl)
                (try simp only [Act.put, List.getElem_toArray, List.getElem_cons_zero, List.getElem_cons_succ, List.setIfInBounds_toArray, List.set_cons_zero, List.set_cons_succ])
                refine wpAnyH_take (i := 21) (v := ?_) rfl (by kernel_rfl) (by kernel_rfl) (by kernel_rfl) (fun _ _ _ h => h) (Or.inl ⟨by rfl, ?_⟩) hH3 ?_
                rotate_left
                · (intro w hSw; (try dsimp only at hSw); go_simp; try with_reducible rfl)
                (try simp only [Act.put, List.getElem_toArray, List.getElem_cons_zero, List.getElem_cons_succ, List.setIfInBounds_toArray, List.set_cons_zero, List.set_cons_succ])
                refine wpAnyH_take (i := 23) (v := ?_) rfl (by kernel_rfl) (by kernel_rfl) (by kernel_rfl) (fun _ _ _ h => h) (Or.inl ⟨by rfl, ?_⟩) hH3 ?_
                rotate_left
                · (intro w hSw; (try dsimp only at hSw); go_simp; try with_reducible rfl)
                (try simp only [Act.put, List.getElem_toArray, List.getElem_cons_zero, List.getElem_cons_succ, List.setIfInBounds_toArray, List.set_cons_zero, List.set_cons_succ])
                refine wpAnyH_take (i := 24) (v := ?_) rfl (by kernel_rfl) (by kernel_rfl) (by kernel_rfl) (fun _ _ _ h => h) (Or.inl ⟨by rfl, ?_⟩) hH3 ?_
                rotate_left
                · (intro w hSw; (try dsimp only at hSw); go_simp; try with_reducible rfl)
                (try simp only [Act.put, List.getElem_toArray, List.getElem_cons_zero, List.getElem_cons_succ, List.setIfInBounds_toArray, List.set_cons_zero, List.set_cons_succ])
                refine wpAnyH_take (i := 27) (v := ?_) rfl (by kernel_rfl) (by kernel_rfl) (by kernel_rfl) (fun _ _ _ h => h) (Or.inl ⟨by rfl, ?_⟩) hH3 ?_
                rotate_left
                · (intro w hSw; (try dsimp only at hSw); go_simp; try with_reducible rfl)
                (try simp only [Act.put, List.getElem_toArray, List.getElem_cons_zero, List.getElem_cons_succ, List.setIfInBounds_toArray, List.set_cons_zero, List.set_cons_succ])
                refine wpAnyH_ready (rs := [22]) (by kernel_rfl) (by simp) ?_
                refine AllReadyH.cons rfl (fun K hK => ?_) ?_
                · go_simp
                  (with_reducible refine (HNA.out _).mono ?_)
                  rintro e u4 ⟨rfl, hf4⟩
                  have hg4 := Fr.trans hg3 hf4
                  refine hK.out _ _ ?_ (fun hH4 => ?_)
                  · exact HSS.out _ hg4
                  clear hK K
                  (try simp only [Act.put, List.getElem_toArray, List.getElem_cons_zero, List.getElem_cons_succ, List.setIfInBounds_toArray, List.set_cons_zero, List.set_cons_succ])
                  refine wpAnyH_ready (rs := [25]) (by kernel_rfl) (by simp) ?_
                  refine AllReadyH.cons rfl (fun K hK => ?_) ?_
                  · go_simp
                    (with_reducible refine (HNB.out _).mono ?_)
                    rintro e u5 ⟨rfl, hf5⟩
                    have hg5 := Fr.trans hg4 hf5
                    refine hK.out _ _ ?_ (fun hH5 => ?_)
                    · exact HSS.out _ hg5
                    clear hK K
                    (try simp only [Act.put, List.getElem_toArray, List.getElem_cons_zero, List.getElem_cons_succ, List.setIfInBounds_toArray, List.set_cons_zero, List.set_cons_succ])
                    refine wpAnyH_take (i := 26) (v := ?_) rfl (by kernel_rfl) (by kernel_rfl) (by kernel_rfl) (fun _ _ _ h => h) (Or.inl ⟨by rfl, ?_⟩) hH5 ?_
                    rotate_left
                    · (intro w hSw; (try dsimp only at hSw); go_simp; try with_reducible rfl)
                    (try simp only [Act.put, List.getElem_toArray, List.getElem_cons_zero, List.getElem_cons_succ, List.setIfInBounds_toArray, List.set_cons_zero, List.set_cons_succ])
                    refine wpAnyH_take (i := 28) (v := ?_) rfl (by kernel_rfl) (by kernel_rfl) (by kernel_rfl) (fun _ _ _ h => h) (Or.inl ⟨by rfl, ?_⟩) hH5 ?_
                    rotate_left
                    · (intro w hSw; (try dsimp only at hSw); go_simp; rw [HNN.out]; try simp)
                    (try simp only [Act.put, List.getElem_toArray, List.getElem_cons_zero, List.getElem_cons_succ, List.setIfInBounds_toArray, List.set_cons_zero, List.set_cons_succ])
                    refine wpAnyH_take (i := 29) (v := ?_) rfl (by kernel_rfl) (by kernel_rfl) (by kernel_rfl) (fun _ _ _ h => h) (Or.inl ⟨by rfl, ?_⟩) hH5 ?_
                    rotate_left
                    · (intro w hSw; (try dsimp only at hSw); go_simp; try with_reducible rfl)
                    (try simp only [Act.put, List.getElem_toArray, List.getElem_cons_zero, List.getElem_cons_succ, List.setIfInBounds_toArray, List.set_cons_zero, List.set_cons_succ])
                    refine wpAnyH_take (i := 30) (v := ?_) rfl (by kernel_rfl) (by kernel_rfl) (by kernel_rfl) (fun _ _ _ h => h) (Or.inl ⟨by rfl, ?_⟩) hH5 ?_
                    rotate_left
                    · (intro w hSw; (try dsimp only at hSw); go_simp; try with_reducible rfl)
                    (try simp only [Act.put, List.getElem_toArray, List.getElem_cons_zero, List.getElem_cons_succ, List.setIfInBounds_toArray, List.set_cons_zero, List.set_cons_succ])
                    refine wpAnyH_take (i := 31) (v := ?_) rfl (by kernel_rfl) (by kernel_rfl) (by kernel_rfl) (fun _ _ _ h => h) (Or.inl ⟨by rfl, ?_⟩) hH5 ?_
                    rotate_left
                    · (intro w hSw; (try dsimp only at hSw); go_simp; try with_reducible rfl)
                    (try simp only [Act.put, List.getElem_toArray, List.getElem_cons_zero, List.getElem_cons_succ, List.setIfInBounds_toArray, List.set_cons_zero, List.set_cons_succ])
                    refine wpAnyH_done (by kernel_rfl) ?_ _
                    go_wp2
                    go_ret
                    exact ⟨rfl, HBF.out _ hg5⟩
                  exact AllReadyH.nil
                exact AllReadyH.nil
              exact AllReadyH.nil
            exact AllReadyH.nil
          exact AllReadyH.nil
        · clear HYY
          refine wp_region_held_drew (S := fun W => Fr No U W ∧ W.cell? ⟨w.heap.size, 0, none⟩ = some (.int .i64 acl) ∧ W.cell? ⟨w.heap.size, 1, none⟩ = some (.int .i64 asq) ∧ W.cell? ⟨w.heap.size, 2, none⟩ = some (.int .i64 akd) ∧ W.cell? ⟨w.heap.size, 3, none⟩ = some (.string aac) ∧ W.cell? ⟨w.heap.size, 4, none⟩ = some (.string ape) ∧ W.cell? ⟨w.heap.size, 5, none⟩ = some (.int .i64 asm) ∧ W.cell? ⟨w.heap.size, 6, none⟩ = some (.slice aA (min aL.length 10) aC) ∧ W.cell? ⟨w.heap.size, 7, none⟩ = some (.int .i64 apr) ∧ W.cell? ⟨w.heap.size, 8, none⟩ = some (.int .i64 ahd) ∧ W.cell? ⟨w.heap.size, 9, none⟩ = some (.string ant) ∧ W.cell? ⟨w.heap.size + 1, 0, none⟩ = some (.int .i64 bcl) ∧ W.cell? ⟨w.heap.size + 1, 1, none⟩ = some (.int .i64 bsq) ∧ W.cell? ⟨w.heap.size + 1, 2, none⟩ = some (.int .i64 bkd) ∧ W.cell? ⟨w.heap.size + 1, 3, none⟩ = some (.string bac) ∧ W.cell? ⟨w.heap.size + 1, 4, none⟩ = some (.string bpe) ∧ W.cell? ⟨w.heap.size + 1, 5, none⟩ = some (.int .i64 bsm) ∧ W.cell? ⟨w.heap.size + 1, 6, none⟩ = some (.slice bA (min bL.length 10) bC) ∧ W.cell? ⟨w.heap.size + 1, 7, none⟩ = some (.int .i64 bpr) ∧ W.cell? ⟨w.heap.size + 1, 8, none⟩ = some (.int .i64 bhd) ∧ W.cell? ⟨w.heap.size + 1, 9, none⟩ = some (.string bnt)) (by kernel_rfl) (HSS.out _ hg0) (fun hH0 => ?_)
          refine wpAnyH_take (i := 0) (v := ?_) rfl (by kernel_rfl) (by kernel_rfl) (by kernel_rfl) (fun _ _ _ h => h) (Or.inl ⟨by rfl, ?_⟩) hH0 ?_
          rotate_left
          · (intro w hSw; (try dsimp only at hSw); go_simp; try with_reducible rfl)
          (try simp only [Act.put, List.getElem_toArray, List.getElem_cons_zero, List.getElem_cons_succ, List.setIfInBounds_toArray, List.set_cons_zero, List.set_cons_succ])
          refine wpAnyH_take (i := 1) (v := ?_) rfl (by kernel_rfl) (by kernel_rfl) (by kernel_rfl) (fun _ _ _ h => h) (Or.inl ⟨by rfl, ?_⟩) hH0 ?_
          rotate_left
          · (intro w hSw; (try dsimp only at hSw); go_simp; try with_reducible rfl)
          (try simp only [Act.put, List.getElem_toArray, List.getElem_cons_zero, List.getElem_cons_succ, List.setIfInBounds_toArray, List.set_cons_zero, List.set_cons_succ])
          refine wpAnyH_ready (rs := [2]) (by kernel_rfl) (by simp) ?_
          refine AllReadyH.cons rfl (fun K hK => ?_) ?_
          · go_simp
            (with_reducible refine (HAA.out _ (HBF.out _ hg0)).mono ?_)
            rintro e u1 ⟨rfl, hf1⟩
            have hg1 := Fr.trans hg0 hf1
            refine hK.out _ _ ?_ (fun hH1 => ?_)
            · exact HSS.out _ hg1
            clear hK K
            (try simp only [Act.put, List.getElem_toArray, List.getElem_cons_zero, List.getElem_cons_succ, List.setIfInBounds_toArray, List.set_cons_zero, List.set_cons_succ])
            refine wpAnyH_take (i := 3) (v := ?_) rfl (by kernel_rfl) (by kernel_rfl) (by kernel_rfl) (fun _ _ _ h => h) (Or.inl ⟨by rfl, ?_⟩) hH1 ?_
            rotate_left
            · (intro w hSw; (try dsimp only at hSw); go_simp; try with_reducible rfl)
            (try simp only [Act.put, List.getElem_toArray, List.getElem_cons_zero, List.getElem_cons_succ, List.setIfInBounds_toArray, List.set_cons_zero, List.set_cons_succ])
            refine wpAnyH_take (i := 4) (v := ?_) rfl (by kernel_rfl) (by kernel_rfl) (by kernel_rfl) (fun _ _ _ h => h) (Or.inl ⟨by rfl, ?_⟩) hH1 ?_
            rotate_left
            · (intro w hSw; (try dsimp only at hSw); go_simp; try with_reducible rfl)
            (try simp only [Act.put, List.getElem_toArray, List.getElem_cons_zero, List.getElem_cons_succ, List.setIfInBounds_toArray, List.set_cons_zero, List.set_cons_succ])
            refine wpAnyH_take (i := 5) (v := ?_) rfl (by kernel_rfl) (by kernel_rfl) (by kernel_rfl) (fun _ _ _ h => h) (Or.inl ⟨by rfl, ?_⟩) hH1 ?_
            rotate_left
            · (intro w hSw; (try dsimp only at hSw); go_simp; try with_reducible rfl)
            (try simp only [Act.put, List.getElem_toArray, List.getElem_cons_zero, List.getElem_cons_succ, List.setIfInBounds_toArray, List.set_cons_zero, List.set_cons_succ])
            refine wpAnyH_take (i := 7) (v := ?_) rfl (by kernel_rfl) (by kernel_rfl) (by kernel_rfl) (fun _ _ _ h => h) (Or.inl ⟨by rfl, ?_⟩) hH1 ?_
            rotate_left
            · (intro w hSw; (try dsimp only at hSw); go_simp; try with_reducible rfl)
            (try simp only [Act.put, List.getElem_toArray, List.getElem_cons_zero, List.getElem_cons_succ, List.setIfInBounds_toArray, List.set_cons_zero, List.set_cons_succ])
            refine wpAnyH_take (i := 8) (v := ?_) rfl (by kernel_rfl) (by kernel_rfl) (by kernel_rfl) (fun _ _ _ h => h) (Or.inl ⟨by rfl, ?_⟩) hH1 ?_
            rotate_left
            · (intro w hSw; (try dsimp only at hSw); go_simp; try with_reducible rfl)
            (try simp only [Act.put, List.getElem_toArray, List.getElem_cons_zero, List.getElem_cons_succ, List.setIfInBounds_toArray, List.set_cons_zero, List.set_cons_succ])
            refine wpAnyH_ready (rs := [6]) (by kernel_rfl) (by simp) ?_
            refine AllReadyH.cons rfl (fun K hK => ?_) ?_
            · go_simp
              (with_reducible refine (HAB.out _ (HBF.out _ hg1)).mono ?_)
              rintro e u2 ⟨rfl, hf2⟩
              have hg2 := Fr.trans hg1 hf2
              refine hK.out _ _ ?_ (fun hH2 => ?_)
              · exact HSS.out _ hg2
              clear hK K
              (try simp only [Act.put, List.getElem_toArray, List.getElem_cons_zero, List.getElem_cons_succ, List.setIfInBounds_toArray, List.set_cons_zero, List.set_cons_succ])
              refine wpAnyH_ready (rs := [9]) (by kernel_rfl) (by simp) ?_
              refine AllReadyH.cons rfl (fun K hK => ?_) ?_
              · go_simp
                (with_reducible refine (HBA.out _ (HBF.out _ hg2)).mono ?_)
                rintro e u3 ⟨rfl, hf3⟩
                have hg3 := Fr.trans hg2 hf3
                refine hK.out _ _ ?_ (fun hH3 => ?_)
                · exact HSS.out _ hg3
                clear hK K
                (try simp only [Act.put, List.getElem_toArray, List.getElem_cons_zero, List.getElem_cons_succ, List.setIfInBounds_toArray, List.set_cons_zero, List.set_cons_succ])
                refine wpAnyH_take (i := 10) (v := ?_) rfl (by kernel_rfl) (by kernel_rfl) (by kernel_rfl) (fun _ _ _ h => h) (Or.inl ⟨by rfl, ?_⟩) hH3 ?_
                rotate_left
                · (intro w hSw; (try dsimp only at hSw); go_simp; try with_reducible rfl)
                (try simp only [Act.put, List.getElem_toArray, List.getElem_cons_zero, List.getElem_cons_succ, List.setIfInBounds_toArray, List.set_cons_zero, List.set_cons_succ])
                refine wpAnyH_take (i := 11) (v := ?_) rfl (by kernel_rfl) (by kernel_rfl) (by kernel_rfl) (fun _ _ _ h => h) (Or.inl ⟨by rfl, ?_⟩) hH3 ?_
                rotate_left
                · (intro w hSw; (try dsimp only at hSw); go_simp; try with_reducible rfl)
                (try simp only [Act.put, List.getElem_toArray, List.getElem_cons_zero, List.getElem_cons_succ, List.setIfInBounds_toArray, List.set_cons_zero, List.set_cons_succ])
                refine wpAnyH_take (i := 12) (v := ?_) rfl (by kernel_rfl) (by kernel_rfl) (by kernel_rfl) (fun _ _ _ h => h) (Or.inl ⟨by rfl, ?_⟩) hH3 ?_
                rotate_left
                · (intro w hSw; (try dsimp only at hSw); go_simp; try with_reducible rfl)
                (try simp only [Act.put, List.getElem_toArray, List.getElem_cons_zero, List.getElem_cons_succ, List.setIfInBounds_toArray, List.set_cons_zero, List.set_cons_succ])
                refine wpAnyH_take (i := 13) (v := ?_) rfl (by kernel_rfl) (by kernel_rfl) (by kernel_rfl) (fun _ _ _ h => h) (Or.inl ⟨by rfl, ?_⟩) hH3 ?_
                rotate_left
                · (intro w hSw; (try dsimp only at hSw); go_simp; try with_reducible rfl)
                (try simp only [Act.put, List.getElem_toArray, List.getElem_cons_zero, List.getElem_cons_succ, List.setIfInBounds_toArray, List.set_cons_zero, List.set_cons_succ])
                refine wpAnyH_take (i := 14) (v := ?_) rfl (by kernel_rfl) (by kernel_rfl) (by kernel_rfl) (fun _ _ _ h => h) (Or.inl ⟨by rfl, ?_⟩) hH3 ?_
                rotate_left
                · (intro w hSw; (try dsimp only at hSw); go_simp; try with_reducible rfl)
                (try simp only [Act.put, List.getElem_toArray, List.getElem_cons_zero, List.getElem_cons_succ, List.setIfInBounds_toArray, List.set_cons_zero, List.set_cons_succ])
                refine wpAnyH_take (i := 15) (v := ?_) rfl (by kernel_rfl) (by kernel_rfl) (by kernel_rfl) (fun _ _ _ h => h) (Or.inl ⟨by rfl, ?_⟩) hH3 ?_
                rotate_left
                · (intro w hSw; (try dsimp only at hSw); go_simp; try with_reducible rfl)
                (try simp only [Act.put, List.getElem_toArray, List.getElem_cons_zero, List.getElem_cons_succ, List.setIfInBounds_toArray, List.set_cons_zero, List.set_cons_succ])
                refine wpAnyH_take (i := 16) (v := ?_) rfl (by kernel_rfl) (by kernel_rfl) (by kernel_rfl) (fun _ _ _ h => h) (Or.inl ⟨by rfl, ?_⟩) hH3 ?_
                rotate_left
                · (intro w hSw; (try dsimp only at hSw); go_simp; try with_reducible rfl)
                (try simp only [Act.put, List.getElem_toArray, List.getElem_cons_zero, List.getElem_cons_succ, List.setIfInBounds_toArray, List.set_cons_zero, List.set_cons_succ])
                refine wpAnyH_take (i := 17) (v := ?_) rfl (by kernel_rfl) (by kernel_rfl) (by kernel_rfl) (fun _ _ _ h => h) (Or.inl ⟨by rfl, ?_⟩) hH3 ?_
                rotate_left
                · (intro w hSw; (try dsimp only at hSw); go_simp; try with_reducible rfl)
                (try simp only [Act.put, List.getElem_toArray, List.getElem_cons_zero, List.getElem_cons_succ, List.setIfInBounds_toArray, List.set_cons_zero, List.set_cons_succ])
                refine wpAnyH_take (i := 18) (v := ?_) rfl (by kernel_rfl) (by kernel_rfl) (by kernel_rfl) (fun _ _ _ h => h) (Or.inl ⟨by rfl, ?_⟩) hH3 ?_
                rotate_left
                · (intro w hSw; (try dsimp only at hSw); go_simp; try with_reducible rfl)
                (try simp only [Act.put, List.getElem_toArray, List.getElem_cons_zero, List.getElem_cons_succ, List.setIfInBounds_toArray, List.set_cons_zero, List.set_cons_succ])
                refine wpAnyH_take (i := 19) (v := ?_) rfl (by kernel_rfl) (by kernel_rfl) (by kernel_rfl) (fun _ _ _ h => h) (Or.inl ⟨by rfl, ?_⟩) hH3 ?_
                rotate_left
                · (intro w hSw; (try dsimp only at hSw); go_simp; try with_reducible rfl)
                (try simp only [Act.put, List.getElem_toArray, List.getElem_cons_zero, List.getElem_cons_succ, List.setIfInBounds_toArray, List.set_cons_zero, List.set_cons_succ])
                refine wpAnyH_take (i := 20) (v := undef) rfl (by kernel_rfl) (by kernel_rfl) (by kernel_rfl) (fun _ _ _ h => h) (Or.inr ⟨by rfl, rfl⟩) hH3 ?_
                (try simp only [Act.put, List.getElem_toArray, List.getElem_cons_zero, List.getElem_cons_succ, List.setIfInBounds_toArray, List.set_cons_zero, List.set_cons_succ])
                refine wpAnyH_take (i := 21) (v := undef) rfl (by kernel_rfl) (by kernel_rfl) (by kernel_rfl) (fun _ _ _ h => h) (Or.inr ⟨by rfl, rfl⟩) hH3 ?_
                (try simp only [Act.put, List.getElem_toArray, List.getElem_cons_zero, List.getElem_cons_succ, List.setIfInBounds_toArray, List.set_cons_zero, List.set_cons_succ])
                refine wpAnyH_take (i := 22) (v := undef) rfl (by kernel_rfl) (by kernel_rfl) (by kernel_rfl) (fun _ _ _ h => h) (Or.inr ⟨by rfl, rfl⟩) hH3 ?_
                (try simp only [Act.put, List.getElem_toArray, List.getElem_cons_zero, List.getElem_cons_succ, List.setIfInBounds_toArray, List.set_cons_zero, List.set_cons_succ])
                refine wpAnyH_take (i := 23) (v := undef) rfl (by kernel_rfl) (by kernel_rfl) (by kernel_rfl) (fun _ _ _ h => h) (Or.inr ⟨by rfl, rfl⟩) hH3 ?_
                (try simp only [Act.put, List.getElem_toArray, List.getElem_cons_zero, List.getElem_cons_succ, List.setIfInBounds_toArray, List.set_cons_zero, List.set_cons_succ])
                refine wpAnyH_take (i := 24) (v := undef) rfl (by kernel_rfl) (by kernel_rfl) (by kernel_rfl) (fun _ _ _ h => h) (Or.inr ⟨by rfl, rfl⟩) hH3 ?_
                (try simp only [Act.put, List.getElem_toArray, List.getElem_cons_zero, List.getElem_cons_succ, List.setIfInBounds_toArray, List.set_cons_zero, List.set_cons_succ])
                refine wpAnyH_take (i := 25) (v := undef) rfl (by kernel_rfl) (by kernel_rfl) (by kernel_rfl) (fun _ _ _ h => h) (Or.inr ⟨by rfl, rfl⟩) hH3 ?_
                (try simp only [Act.put, List.getElem_toArray, List.getElem_cons_zero, List.getElem_cons_succ, List.setIfInBounds_toArray, List.set_cons_zero, List.set_cons_succ])
                refine wpAnyH_take (i := 26) (v := undef) rfl (by kernel_rfl) (by kernel_rfl) (by kernel_rfl) (fun _ _ _ h => h) (Or.inr ⟨by rfl, rfl⟩) hH3 ?_
                (try simp only [Act.put, List.getElem_toArray, List.getElem_cons_zero, List.getElem_cons_succ, List.setIfInBounds_toArray, List.set_cons_zero, List.set_cons_succ])
                refine wpAnyH_take (i := 27) (v := undef) rfl (by kernel_rfl) (by kernel_rfl) (by kernel_rfl) (fun _ _ _ h => h) (Or.inr ⟨by rfl, rfl⟩) hH3 ?_
                (try simp only [Act.put, List.getElem_toArray, List.getElem_cons_zero, List.getElem_cons_succ, List.setIfInBounds_toArray, List.set_cons_zero, List.set_cons_succ])
                refine wpAnyH_take (i := 28) (v := undef) rfl (by kernel_rfl) (by kernel_rfl) (by kernel_rfl) (fun _ _ _ h => h) (Or.inr ⟨by rfl, rfl⟩) hH3 ?_
                (try simp only [Act.put, List.getElem_toArray, List.getElem_cons_zero, List.getElem_cons_succ, List.setIfInBounds_toArray, List.set_cons_zero, List.set_cons_succ])
                refine wpAnyH_take (i := 29) (v := ?_) rfl (by kernel_rfl) (by kernel_rfl) (by kernel_rfl) (fun _ _ _ h => h) (Or.inl ⟨by rfl, ?_⟩) hH3 ?_
                rotate_left
                · (intro w hSw; (try dsimp only at hSw); go_simp; try with_reducible rfl)
                (try simp only [Act.put, List.getElem_toArray, List.getElem_cons_zero, List.getElem_cons_succ, List.setIfInBounds_toArray, List.set_cons_zero, List.set_cons_succ])
                refine wpAnyH_take (i := 30) (v := ?_) rfl (by kernel_rfl) (by kernel_rfl) (by kernel_rfl) (fun _ _ _ h => h) (Or.inl ⟨by rfl, ?_⟩) hH3 ?_
                rotate_left
                · (intro w hSw; (try dsimp only at hSw); go_simp; try with_reducible rfl)
                (try simp only [Act.put, List.getElem_toArray, List.getElem_cons_zero, List.getElem_cons_succ, List.setIfInBounds_toArray, List.set_cons_zero, List.set_cons_succ])
                refine wpAnyH_take (i := 31) (v := ?_) rfl (by kernel_rfl) (by kernel_rfl) (by kernel_rfl) (fun _ _ _ h => h) (Or.inl ⟨by rfl, ?_⟩) hH3 ?_
                rotate_left
                · (intro w hSw; (try dsimp only at hSw); go_simp; try with_reducible rfl)
                (try simp only [Act.put, List.getElem_toArray, List.getElem_cons_zero, List.getElem_cons_succ, List.setIfInBounds_toArray, List.set_cons_zero, List.set_cons_succ])
                refine wpAnyH_done (by kernel_rfl) ?_ _
                go_wp2
                go_ret
                exact ⟨rfl, HBF.out _ hg3⟩
              exact AllReadyH.nil
            exact AllReadyH.nil
          exact AllReadyH.nil
        · clear HYY
          refine wp_region_held_drew (S := fun W => Fr No U W ∧ W.cell? ⟨w.heap.size, 0, none⟩ = some (.int .i64 acl) ∧ W.cell? ⟨w.heap.size, 1, none⟩ = some (.int .i64 asq) ∧ W.cell? ⟨w.heap.size, 2, none⟩ = some (.int .i64 akd) ∧ W.cell? ⟨w.heap.size, 3, none⟩ = some (.string aac) ∧ W.cell? ⟨w.heap.size, 4, none⟩ = some (.string ape) ∧ W.cell? ⟨w.heap.size, 5, none⟩ = some (.int .i64 asm) ∧ W.cell? ⟨w.heap.size, 6, none⟩ = some (.slice aA (min aL.length 10) aC) ∧ W.cell? ⟨w.heap.size, 7, none⟩ = some (.int .i64 apr) ∧ W.cell? ⟨w.heap.size, 8, none⟩ = some (.int .i64 ahd) ∧ W.cell? ⟨w.heap.size, 9, none⟩ = some (.string ant) ∧ W.cell? ⟨w.heap.size + 1, 0, none⟩ = some (.int .i64 bcl) ∧ W.cell? ⟨w.heap.size + 1, 1, none⟩ = some (.int .i64 bsq) ∧ W.cell? ⟨w.heap.size + 1, 2, none⟩ = some (.int .i64 bkd) ∧ W.cell? ⟨w.heap.size + 1, 3, none⟩ = some (.string bac) ∧ W.cell? ⟨w.heap.size + 1, 4, none⟩ = some (.string bpe) ∧ W.cell? ⟨w.heap.size + 1, 5, none⟩ = some (.int .i64 bsm) ∧ W.cell? ⟨w.heap.size + 1, 6, none⟩ = some (.slice bA (min bL.length 10) bC) ∧ W.cell? ⟨w.heap.size + 1, 7, none⟩ = some (.int .i64 bpr) ∧ W.cell? ⟨w.heap.size + 1, 8, none⟩ = some (.int .i64 bhd) ∧ W.cell? ⟨w.heap.size + 1, 9, none⟩ = some (.string bnt)) (by kernel_rfl) (HSS.out _ hg0) (fun hH0 => ?_)
          refine wpAnyH_take (i := 0) (v := ?_) rfl (by kernel_rfl) (by kernel_rfl) (by kernel_rfl) (fun _ _ _ h => h) (Or.inl ⟨by rfl, ?_⟩) hH0 ?_
          rotate_left
          · (intro w hSw; (try dsimp only at hSw); go_simp; try with_reducible rfl)
          (try simp only [Act.put, List.getElem_toArray, List.getElem_cons_zero, List.getElem_cons_succ, List.setIfInBounds_toArray, List.set_cons_zero, List.set_cons_succ])
          refine wpAnyH_take (i := 1) (v := ?_) rfl (by kernel_rfl) (by kernel_rfl) (by kernel_rfl) (fun _ _ _ h => h) (Or.inl ⟨by rfl, ?_⟩) hH0 ?_
          rotate_left
          · (intro w hSw; (try dsimp only at hSw); go_simp; try with_reducible rfl)
          (try simp only [Act.put, List.getElem_toArray, List.getElem_cons_zero, List.getElem_cons_succ, List.setIfInBounds_toArray, List.set_cons_zero, List.set_cons_succ])
          refine wpAnyH_ready (rs := [2]) (by kernel_rfl) (by simp) ?_
          refine AllReadyH.cons rfl (fun K hK => ?_) ?_
          · go_simp
            (with_reducible refine (HAA.out _ (HBF.out _ hg0)).mono ?_)
            rintro e u1 ⟨rfl, hf1⟩
            have hg1 := Fr.trans hg0 hf1
            refine hK.out _ _ ?_ (fun hH1 => ?_)
            · exact HSS.out _ hg1
            clear hK K
            (try simp only [Act.put, List.getElem_toArray, List.getElem_cons_zero, List.getElem_cons_succ, List.setIfInBounds_toArray, List.set_cons_zero, List.set_cons_succ])
            refine wpAnyH_take (i := 3) (v := ?_) rfl (by kernel_rfl) (by kernel_rfl) (by kernel_rfl) (fun _ _ _ h => h) (Or.inl ⟨by rfl, ?_⟩) hH1 ?_
            rotate_left
            · (intro w hSw; (try dsimp only at hSw); go_simp; try with_reducible rfl)
            (try simp only [Act.put, List.getElem_toArray, List.getElem_cons_zero, List.getElem_cons_succ, List.setIfInBounds_toArray, List.set_cons_zero, List.set_cons_succ])
            refine wpAnyH_take (i := 4) (v := ?_) rfl (by kernel_rfl) (by kernel_rfl) (by kernel_rfl) (fun _ _ _ h => h) (Or.inl ⟨by rfl, ?_⟩) hH1 ?_
            rotate_left
            · (intro w hSw; (try dsimp only at hSw); go_simp; try with_reducible rfl)
            (try simp only [Act.put, List.getElem_toArray, List.getElem_cons_zero, List.getElem_cons_succ, List.setIfInBounds_toArray, List.set_cons_zero, List.set_cons_succ])
            refine wpAnyH_take (i := 5) (v := ?_) rfl (by kernel_rfl) (by kernel_rfl) (by kernel_rfl) (fun _ _ _ h => h) (Or.inl ⟨by rfl, ?_⟩) hH1 ?_
            rotate_left
            · (intro w hSw; (try dsimp only at hSw); go_simp; try with_reducible rfl)
            (try simp only [Act.put, List.getElem_toArray, List.getElem_cons_zero, List.getElem_cons_succ, List.setIfInBounds_toArray, List.set_cons_zero, List.set_cons_succ])
            refine wpAnyH_take (i := 7) (v := ?_) rfl (by kernel_rfl) (by kernel_rfl) (by kernel_rfl) (fun _ _ _ h => h) (Or.inl ⟨by rfl, ?_⟩) hH1 ?_
            rotate_left
            · (intro w hSw; (try dsimp only at hSw); go_simp; try with_reducible rfl)
            (try simp only [Act.put, List.getElem_toArray, List.getElem_cons_zero, List.getElem_cons_succ, List.setIfInBounds_toArray, List.set_cons_zero, List.set_cons_succ])
            refine wpAnyH_take (i := 8) (v := ?_) rfl (by kernel_rfl) (by kernel_rfl) (by kernel_rfl) (fun _ _ _ h => h) (Or.inl ⟨by rfl, ?_⟩) hH1 ?_
            rotate_left
            · (intro w hSw; (try dsimp only at hSw); go_simp; try with_reducible rfl)
            (try simp only [Act.put, List.getElem_toArray, List.getElem_cons_zero, List.getElem_cons_succ, List.setIfInBounds_toArray, List.set_cons_zero, List.set_cons_succ])
            refine wpAnyH_ready (rs := [6]) (by kernel_rfl) (by simp) ?_
            refine AllReadyH.cons rfl (fun K hK => ?_) ?_
            · go_simp
              (with_reducible refine (HAB.out _ (HBF.out _ hg1)).mono ?_)
              rintro e u2 ⟨rfl, hf2⟩
              have hg2 := Fr.trans hg1 hf2
              refine hK.out _ _ ?_ (fun hH2 => ?_)
              · exact HSS.out _ hg2
              clear hK K
              (try simp only [Act.put, List.getElem_toArray, List.getElem_cons_zero, List.getElem_cons_succ, List.setIfInBounds_toArray, List.set_cons_zero, List.set_cons_succ])
              refine wpAnyH_ready (rs := [9]) (by kernel_rfl) (by simp) ?_
              refine AllReadyH.cons rfl (fun K hK => ?_) ?_
              · go_simp
                (with_reducible refine (HBA.out _ (HBF.out _ hg2)).mono ?_)
                rintro e u3 ⟨rfl, hf3⟩
                have hg3 := Fr.trans hg2 hf3
                refine hK.out _ _ ?_ (fun hH3 => ?_)
                · exact HSS.out _ hg3
                clear hK K
                (try simp only [Act.put, List.getElem_toArray, List.getElem_cons_zero, List.getElem_cons_succ, List.setIfInBounds_toArray, List.set_cons_zero, List.set_cons_succ])
                refine wpAnyH_take (i := 10) (v := ?_) rfl (by kernel_rfl) (by kernel_rfl) (by kernel_rfl) (fun _ _ _ h => h) (Or.inl ⟨by rfl, ?_⟩) hH3 ?_
                rotate_left
                · (intro w hSw; (try dsimp only at hSw); go_simp; try with_reducible rfl)
                (try simp only [Act.put, List.getElem_toArray, List.getElem_cons_zero, List.getElem_cons_succ, List.setIfInBounds_toArray, List.set_cons_zero, List.set_cons_succ])
                refine wpAnyH_take (i := 11) (v := ?_) rfl (by kernel_rfl) (by kernel_rfl) (by kernel_rfl) (fun _ _ _ h => h) (Or.inl ⟨by rfl, ?_⟩) hH3 ?_
                rotate_left
                · (intro w hSw; (try dsimp only at hSw); go_simp; try with_reducible rfl)
                (try simp only [Act.put, List.getElem_toArray, List.getElem_cons_zero, List.getElem_cons_succ, List.setIfInBounds_toArray, List.set_cons_zero, List.set_cons_succ])
                refine wpAnyH_take (i := 12) (v := ?_) rfl (by kernel_rfl) (by kernel_rfl) (by kernel_rfl) (fun _ _ _ h => h) (Or.inl ⟨by rfl, ?_⟩) hH3 ?_
                rotate_left
                · (intro w hSw; (try dsimp only at hSw); go_simp; try with_reducible rfl)
                (try simp only [Act.put, List.getElem_toArray, List.getElem_cons_zero, List.getElem_cons_succ, List.setIfInBounds_toArray, List.set_cons_zero, List.set_cons_succ])
                refine wpAnyH_take (i := 13) (v := ?_) rfl (by kernel_rfl) (by kernel_rfl) (by kernel_rfl) (fun _ _ _ h => h) (Or.inl ⟨by rfl, ?_⟩) hH3 ?_
                rotate_left
                · (intro w hSw; (try dsimp only at hSw); go_simp; try with_reducible rfl)
                (try simp only [Act.put, List.getElem_toArray, List.getElem_cons_zero, List.getElem_cons_succ, List.setIfInBounds_toArray, List.set_cons_zero, List.set_cons_succ])
                refine wpAnyH_take (i := 14) (v := ?_) rfl (by kernel_rfl) (by kernel_rfl) (by kernel_rfl) (fun _ _ _ h => h) (Or.inl ⟨by rfl, ?_⟩) hH3 ?_
                rotate_left
                · (intro w hSw; (try dsimp only at hSw); go_simp; try with_reducible rfl)
                (try simp only [Act.put, List.getElem_toArray, List.getElem_cons_zero, List.getElem_cons_succ, List.setIfInBounds_toArray, List.set_cons_zero, List.set_cons_succ])
                refine wpAnyH_take (i := 15) (v := ?_) rfl (by kernel_rfl) (by kernel_rfl) (by kernel_rfl) (fun _ _ _ h => h) (Or.inl ⟨by rfl, ?_⟩) hH3 ?_
                rotate_left
                · (intro w hSw; (try dsimp only at hSw); go_simp; try with_reducible rfl)
                (try simp only [Act.put, List.getElem_toArray, List.getElem_cons_zero, List.getElem_cons_succ, List.setIfInBounds_toArray, List.set_cons_zero, List.set_cons_succ])
                refine wpAnyH_take (i := 16) (v := undef) rfl (by kernel_rfl) (by kernel_rfl) (by kernel_rfl) (fun _ _ _ h => h) (Or.inr ⟨by rfl, rfl⟩) hH3 ?_
                (try simp only [Act.put, List.getElem_toArray, List.getElem_cons_zero, List.getElem_cons_succ, List.setIfInBounds_toArray, List.set_cons_zero, List.set_cons_succ])
                refine wpAnyH_take (i := 17) (v := undef) rfl (by kernel_rfl) (by kernel_rfl) (by kernel_rfl) (fun _ _ _ h => h) (Or.inr ⟨by rfl, rfl⟩) hH3 ?_
                (try simp only [Act.put, List.getElem_toArray, List.getElem_cons_zero, List.getElem_cons_succ, List.setIfInBounds_toArray, List.set_cons_zero, List.set_cons_succ])
                refine wpAnyH_take (i := 18) (v := ?_) rfl (by kernel_rfl) (by kernel_rfl) (by kernel_rfl) (fun _ _ _ h => h) (Or.inl ⟨by rfl, ?_⟩) hH3 ?_
                rotate_left
                · (intro w hSw; (try dsimp only at hSw); go_simp; try with_reducible rfl)
                (try simp only [Act.put, List.getElem_toArray, List.getElem_cons_zero, List.getElem_cons_succ, List.setIfInBounds_toArray, List.set_cons_zero, List.set_cons_succ])
                refine wpAnyH_take (i := 19) (v := ?_) rfl (by kernel_rfl) (by kernel_rfl) (by kernel_rfl) (fun _ _ _ h => h) (Or.inl ⟨by rfl, ?_⟩) hH3 ?_
                rotate_left
                · (intro w hSw; (try dsimp only at hSw); go_simp; try with_reducible rfl)
                (try simp only [Act.put, List.getElem_toArray, List.getElem_cons_zero, List.getElem_cons_succ, List.setIfInBounds_toArray, List.set_cons_zero, List.set_cons_succ])
                refine wpAnyH_take (i := 20) (v := undef) rfl (by kernel_rfl) (by kernel_rfl) (by kernel_rfl) (fun _ _ _ h => h) (Or.inr ⟨by rfl, rfl⟩) hH3 ?_
                (try simp only [Act.put, List.getElem_toArray, List.getElem_cons_zero, List.getElem_cons_succ, List.setIfInBounds_toArray, List.set_cons_zero, List.set_cons_succ])
                refine wpAnyH_take (i := 21) (v := undef) rfl (by kernel_rfl) (by kernel_rfl) (by kernel_rfl) (fun _ _ _ h => h) (Or.inr ⟨by rfl, rfl⟩) hH3 ?_
                (try simp only [Act.put, List.getElem_toArray, List.getElem_cons_zero, List.getElem_cons_succ, List.setIfInBounds_toArray, List.set_cons_zero, List.set_cons_succ])
                refine wpAnyH_take (i := 22) (v := undef) rfl (by kernel_rfl) (by kernel_rfl) (by kernel_rfl) (fun _ _ _ h => h) (Or.inr ⟨by rfl, rfl⟩) hH3 ?_
                (try simp only [Act.put, List.getElem_toArray, List.getElem_cons_zero, List.getElem_cons_succ, List.setIfInBounds_toArray, List.set_cons_zero, List.set_cons_succ])
                refine wpAnyH_take (i := 23) (v := undef) rfl (by kernel_rfl) (by kernel_rfl) (by kernel_rfl) (fun _ _ _ h => h) (Or.inr ⟨by rfl, rfl⟩) hH3 ?_
                (try simp only [Act.put, List.getElem_toArray, List.getElem_cons_zero, List.getElem_cons_succ, List.setIfInBounds_toArray, List.set_cons_zero, List.set_cons_succ])
                refine wpAnyH_take (i := 24) (v := undef) rfl (by kernel_rfl) (by kernel_rfl) (by kernel_rfl) (fun _ _ _ h => h) (Or.inr ⟨by rfl, rfl⟩) hH3 ?_
                (try simp only [Act.put, List.getElem_toArray, List.getElem_cons_zero, List.getElem_cons_succ, List.setIfInBounds_toArray, List.set_cons_zero, List.set_cons_succ])
                refine wpAnyH_take (i := 25) (v := undef) rfl (by kernel_rfl) (by kernel_rfl) (by kernel_rfl) (fun _ _ _ h => h) (Or.inr ⟨by rfl, rfl⟩) hH3 ?_
                (try simp only [Act.put, List.getElem_toArray, List.getElem_cons_zero, List.getElem_cons_succ, List.setIfInBounds_toArray, List.set_cons_zero, List.set_cons_succ])
                refine wpAnyH_take (i := 26) (v := undef) rfl (by kernel_rfl) (by kernel_rfl) (by kernel_rfl) (fun _ _ _ h => h) (Or.inr ⟨by rfl, rfl⟩) hH3 ?_
                (try simp only [Act.put, List.getElem_toArray, List.getElem_cons_zero, List.getElem_cons_succ, List.setIfInBounds_toArray, List.set_cons_zero, List.set_cons_succ])
                refine wpAnyH_take (i := 27) (v := undef) rfl (by kernel_rfl) (by kernel_rfl) (by kernel_rfl) (fun _ _ _ h => h) (Or.inr ⟨by rfl, rfl⟩) hH3 ?_
                (try simp only [Act.put, List.getElem_toArray, List.getElem_cons_zero, List.getElem_cons_succ, List.setIfInBounds_toArray, List.set_cons_zero, List.set_cons_succ])
                refine wpAnyH_take (i := 28) (v := undef) rfl (by kernel_rfl) (by kernel_rfl) (by kernel_rfl) (fun _ _ _ h => h) (Or.inr ⟨by rfl, rfl⟩) hH3 ?_
                (try simp only [Act.put, List.getElem_toArray, List.getElem_cons_zero, List.getElem_cons_succ, List.setIfInBounds_toArray, List.set_cons_zero, List.set_cons_succ])
                refine wpAnyH_take (i := 29) (v := ?_) rfl (by kernel_rfl) (by kernel_rfl) (by kernel_rfl) (fun _ _ _ h => h) (Or.inl ⟨by rfl, ?_⟩) hH3 ?_
                rotate_left
                · (intro w hSw; (try dsimp only at hSw); go_simp; try with_reducible rfl)
                (try simp only [Act.put, List.getElem_toArray, List.getElem_cons_zero, List.getElem_cons_succ, List.setIfInBounds_toArray, List.set_cons_zero, List.set_cons_succ])
                refine wpAnyH_take (i := 30) (v := ?_) rfl (by kernel_rfl) (by kernel_rfl) (by kernel_rfl) (fun _ _ _ h => h) (Or.inl ⟨by rfl, ?_⟩) hH3 ?_
                rotate_left
                · (intro w hSw; (try dsimp only at hSw); go_simp; try with_reducible rfl)
                (try simp only [Act.put, List.getElem_toArray, List.getElem_cons_zero, List.getElem_cons_succ, List.setIfInBounds_toArray, List.set_cons_zero, List.set_cons_succ])
                refine wpAnyH_take (i := 31) (v := ?_) rfl (by kernel_rfl) (by kernel_rfl) (by kernel_rfl) (fun _ _ _ h => h) (Or.inl ⟨by rfl, ?_⟩) hH3 ?_
                rotate_left
                · (intro w hSw; (try dsimp only at hSw); go_simp; try with_reducible rfl)
                (try simp only [Act.put, List.getElem_toArray, List.getElem_cons_zero, List.getElem_cons_succ, List.setIfInBounds_toArray, List.set_cons_zero, List.set_cons_succ])
                refine wpAnyH_done (by kernel_rfl) ?_ _
                go_wp2
                go_ret
                exact ⟨rfl, HBF.out _ hg3⟩
              exact AllReadyH.nil
            exact AllReadyH.nil
          exact AllReadyH.nil
      clear a2 HAA HAB HBA HYY
      have x0 := HA2.out.cell 0
      have x1 := HA2.out.cell 1
      have x2 := HA2.out.cell 2
      have x3 := HA2.out.cell 3
      have x4 := HA2.out.cell 4
      have x5 := HA2.out.cell 5
      have x6 := HA2.out.cell 6
      have x7 := HA2.out.cell 7
      have x8 := HA2.out.cell 8
      have x9 := HA2.out.cell 9
      simp only [List.getElem?_toArray, List.getElem?_cons_zero, List.getElem?_cons_succ] at x0 x1 x2 x3 x4 x5 x6 x7 x8 x9
      have y0 := HB2.out.cell 0
      have y1 := HB2.out.cell 1
      have y2 := HB2.out.cell 2
      have y3 := HB2.out.cell 3
      have y4 := HB2.out.cell 4
      have y5 := HB2.out.cell 5
      have y6 := HB2.out.cell 6
      have y7 := HB2.out.cell 7
      have y8 := HB2.out.cell 8
      have y9 := HB2.out.cell 9
      simp only [List.getElem?_toArray, List.getElem?_cons_zero, List.getElem?_cons_succ] at y0 y1 y2 y3 y4 y5 y6 y7 y8 y9
      rcases ids_case acl asq bcl bsq with ⟨e1, e2, h⟩ | ⟨e1, e2, h⟩ | ⟨e1, e2, rfl, rfl⟩
      · rw [hx] at e1
        rw [hy] at e2
        subst e1 e2
        have hq := fun W => eq_id acl asq bcl bsq W h
        go_wp2_with fail
        refine (HRF.out u2).mono ?_
        rintro e v2 ⟨rfl, hfv⟩
        go_wp2_with fail
        exact HK2.out _ _ _ _ _ _ _ _ _ _ _ _ _ _ _ _ _ _ _ _ _ _ _ _ _ _ _ _ _ _ _ _ _ _ _ _ _ _ _ _ _ _ _ _ _ _ _ _ _ _ _ _ _ _ _ _ _ _ _ _ _ _ _ _ _ _ _ _ _ _ _ _ _ _ _ _ _ _ _ _ _ _ _ _ _ _ _ _ _ _ _ _ _ _ _ _ _ _ _ _ _ _ _ _ _ v2 hfv
      · rw [hx] at e1
        rw [hy] at e2
        subst e1 e2
        have hq := fun W => eq_id acl asq bcl bsq W h
        go_wp2_with fail
        refine (HRF.out u2).mono ?_
        rintro e v2 ⟨rfl, hfv⟩
        go_wp2_with fail
        exact HK2.out _ _ _ _ _ _ _ _ _ _ _ _ _ _ _ _ _ _ _ _ _ _ _ _ _ _ _ _ _ _ _ _ _ _ _ _ _ _ _ _ _ _ _ _ _ _ _ _ _ _ _ _ _ _ _ _ _ _ _ _ _ _ _ _ _ _ _ _ _ _ _ _ _ _ _ _ _ _ _ _ _ _ _ _ _ _ _ _ _ _ _ _ _ _ _ _ _ _ _ _ _ _ _ _ _ v2 hfv
      · rw [hx] at e1
        rw [hy] at e2
        subst e1 e2
        go_wp2_with fail
        refine (HRF.out u2).mono ?_
        rintro e v2 ⟨rfl, hfv⟩
        go_wp2_with fail
        exact HK2.out _ _ _ _ _ _ _ _ _ _ _ _ _ _ _ _ _ _ _ _ _ _ _ _ _ _ _ _ _ _ _ _ _ _ _ _ _ _ _ _ _ _ _ _ _ _ _ _ _ _ _ _ _ _ _ _ _ _ _ _ _ _ _ _ _ _ _ _ _ _ _ _ _ _ _ _ _ _ _ _ _ _ _ _ _ _ _ _ _ _ _ _ _ _ _ _ _ _ _ _ _ _ _ _ _ v2 hfv
    clear a1
    have x0 := HA5.out.cell 0
    have x1 := HA5.out.cell 1
    have x2 := HA5.out.cell 2
    have x3 := HA5.out.cell 3
    have x4 := HA5.out.cell 4
    have x5 := HA5.out.cell 5
    have x6 := HA5.out.cell 6
    have x7 := HA5.out.cell 7
    have x8 := HA5.out.cell 8
    have x9 := HA5.out.cell 9
    simp only [List.getElem?_toArray, List.getElem?_cons_zero, List.getElem?_cons_succ] at x0 x1 x2 x3 x4 x5 x6 x7 x8 x9
    have y0 := HB5.out.cell 0
    have y1 := HB5.out.cell 1
    have y2 := HB5.out.cell 2
    have y3 := HB5.out.cell 3
    have y4 := HB5.out.cell 4
    have y5 := HB5.out.cell 5
    have y6 := HB5.out.cell 6
    have y7 := HB5.out.cell 7
    have y8 := HB5.out.cell 8
    have y9 := HB5.out.cell 9
    simp only [List.getElem?_toArray, List.getElem?_cons_zero, List.getElem?_cons_succ] at y0 y1 y2 y3 y4 y5 y6 y7 y8 y9
    rcases HYY.out with ⟨rfl, rfl, h3, h4⟩ | ⟨rfl, rfl⟩ | rfl
    · have HS1 : Hid (∀ W, Fr No w5 W → Calls Try.prog 15 #[.slice A4 XA.length c4, .slice A5 XB.length c5] W fun e w' => e = .returned (.bool sm) ∧ W = w') := fun W hW => by
        have h := sameB_any _ _ A4 A5 _ c4 _ c5 XA XB W (ownNo HO6.out hW).rd (ownNo HO5.out hW).rd
        rw [← h3] at h
        exact h
      have HF5 : Hid (Fr No w5 w5) := Fr.refl No w5
      clear h3 h4
      go_wp2_with fail
      refine (HAB.out w5 HW5.out).mono ?_
      rintro e w6 ⟨rfl, hf6⟩
      have HF6 := Lib.hid hf6
      go_wp2_with fail
      refine (HS1.out w6 HF6.out).mono ?_
      rintro e w7 ⟨rfl, rfl⟩
      have hss : (sm != sm) = false := bne_self_eq_false _
      go_wp2_with fail
      exact HK1.out _ _ _ _ _ _ _ _ _ _ _ _ _ _ _ _ _ _ _ _ _ _ _ _ _ _ _ _ _ _ _ _ _ _ _ _ _ _ _ _ _ _ _ _ _ _ _ _ _ _ _ _ _ _ _ _ _ _ _ _ _ _ _ _ _ _ _ _ _ _ _ _ _ _ _ _ _ _ _ _ _ _ _ _ _ _ _ _ _ _ _ _ _ _ _ _ _ _ _ _ _ _ _ _ _ _ w6 (HA5.out.fr HF6.out (fun h => h)) (HB5.out.fr HF6.out (fun h => h)) (below_fr_no HW5.out HF6.out HW5.out.size)
    · go_wp2_with fail
      exact HK1.out _ _ _ _ _ _ _ _ _ _ _ _ _ _ _ _ _ _ _ _ _ _ _ _ _ _ _ _ _ _ _ _ _ _ _ _ _ _ _ _ _ _ _ _ _ _ _ _ _ _ _ _ _ _ _ _ _ _ _ _ _ _ _ _ _ _ _ _ _ _ _ _ _ _ _ _ _ _ _ _ _ _ _ _ _ _ _ _ _ _ _ _ _ _ _ _ _ _ _ _ _ _ _ _ _ _ w5 HA5.out HB5.out HW5.out
    · go_wp2_with fail
      exact HK1.out _ _ _ _ _ _ _ _ _ _ _ _ _ _ _ _ _ _ _ _ _ _ _ _ _ _ _ _ _ _ _ _ _ _ _ _ _ _ _ _ _ _ _ _ _ _ _ _ _ _ _ _ _ _ _ _ _ _ _ _ _ _ _ _ _ _ _ _ _ _ _ _ _ _ _ _ _ _ _ _ _ _ _ _ _ _ _ _ _ _ _ _ _ _ _ _ _ _ _ _ _ _ _ _ _ _ w5 HA5.out HB5.out HW5.out
theorem orderSame_w (v : Value) (x : Od × Value) (v' : Value) (y : Od × Value) (w : World) (hv : v = x.1.val x.2 ∧ OdI w x.1 x.2) (hv' : v' = y.1.val y.2 ∧ OdI w y.1 y.2) :
    Calls Try.prog 7 #[v, v'] w (RetTrue w) := orderSame_walk v x.1 x.2 v' y.1 y.2 w hv hv'
end Go.Proofs.Ytlcbbkookjmnkaa
