/- The document's Clash. -/
import Derived.Test.YtnphncemghfkbaaGreatClashU0
import Derived.Test.YtnphncemghfkbaaGreatRefT
import Derived.Test.YtnphncemghfkbaaGreatQ06
namespace Go.Proofs.YtnphncemghfkbaaGreat
open Go.RowKit Go.My Go.Maps Go.WideMaps
set_option linter.unusedSimpArgs false
set_option linter.unusedVariables false
attribute [local go_sem ↓] Go.wp_at_zero Go.wp_at_succ

/-- none of the first is among the others -/
def noMeet (L M : List (List UInt8)) (i : Nat) : Prop := ∀ s ∈ L.take i, s ∉ M
def OutRel (w : World) (L M : List (List UInt8)) (iv : Value) (wr : World) : Prop := ∃ i : Nat, i ≤ L.length ∧ iv = .int .i64 i ∧ noMeet L M i ∧ Fr No w wr
def InnRel (w : World) (x : List UInt8) (M : List (List UInt8)) (kv : Value) (wr : World) : Prop := ∃ k : Nat, k ≤ M.length ∧ kv = .int .i64 k ∧ x ∉ M.take k ∧ Fr No w wr
theorem meet_false {L M : List (List UInt8)} (h : noMeet L M L.length) : meetL L M = false := by
  cases hm : meetL L M with
  | false => rfl
  | true =>
    obtain ⟨s, h1, h2⟩ := (meetL_iff L M).1 hm
    exact absurd h2 (h s (by rw [List.take_of_length_le (Nat.le_refl _)]; exact h1))
theorem meet_true {L M : List (List UInt8)} {i k : Nat} (hi : i < L.length) (hk : k < M.length) (h : L[i] = M[k]) : meetL L M = true :=
  (meetL_iff L M).2 ⟨L[i], List.getElem_mem _, by rw [h]; exact List.getElem_mem _⟩
theorem touch_ret {w : World} {T : List (List UInt8)} {e : Ending} {w' : World} (h : RetOwn w 9 1 none T.length (ts T) e w') : MarkRet w id T e w' := by
  obtain ⟨v, rfl, ho, hf, hn⟩ := h
  obtain ⟨A, c, rfl, h1, h2⟩ := ho.form
  exact ⟨A, c, rfl, ho, h1, h2, fr_no (Fr.refl _ _) (.inl rfl) hf, fun k hk => by have := newer_none hn k hk; omega⟩
set_option maxRecDepth 100000 in
set_option maxHeartbeats 4000000 in
theorem refclash_any (F G : Nat → Prop) (a b : Od) (va vb : Value) (w : World) (hao : a.ok) (hag : ∀ g ∈ a.legs, g.ok) (hbo : b.ok) (hbg : ∀ g ∈ b.legs, g.ok) (ha : LgS w F va a.legs) (hb : LgS w G vb b.legs) (h1 : a.legs.length ≤ 100000) (h2 : b.legs.length ≤ 100000) :
    Calls Tryz.prog 42 #[a.val va, b.val vb] w fun e w' => e = .returned (.bool (clashB a b)) ∧ Fr No w w' := by
  have HTA : Hid ((touchL a).length ≤ 1000000) := by show _ ≤ _; have := touch_len a; omega
  have HTB : Hid ((touchL b).length ≤ 1000000) := by show _ ≤ _; have := touch_len b; omega
  have HMA : Hid (∀ W, Fr No w W → Calls Tryz.prog 72 #[a.val va] W (MarkRet W id (touchL a))) := fun W hW => (reftouches_any F a va W hao hag (ha.no hW) h1).mono fun e w' h => touch_ret h
  have HMB : Hid (∀ W, Fr No w W → Calls Tryz.prog 72 #[b.val vb] W (MarkRet W id (touchL b))) := fun W hW => (reftouches_any G b vb W hbo hbg (hb.no hW) h2).mono fun e w' h => touch_ret h
  have hCB : clashB a b = (hardB a b || meetL (touchL a) (touchL b)) := rfl
  rw [hCB]
  clear hCB
  obtain ⟨vA, ca, rfl, -, -⟩ := ha.form
  obtain ⟨vB, cb, rfl, -, -⟩ := hb.form
  generalize touchL a = TA at *
  generalize touchL b = TB at *
  have hHB : hardB a b = decide ((a.cl = b.cl ∧ a.sq = b.sq) ∨ a.kd = 6 ∨ b.kd = 6 ∨ (a.kd = 1 ∧ b.kd = 1)) := by
    unfold hardB Od.id
    simp only [Prod.mk.injEq]
  rw [hHB]
  clear hHB ha hb h1 h2 hao hag hbo hbg
  generalize a.legs.length = na at *
  generalize b.legs.length = nb at *
  obtain ⟨acl, asq, akd, aac, ape, asm, alg, apr, ahd, ant⟩ := a
  obtain ⟨bcl, bsq, bkd, bac, bpe, bsm, blg, bpr, bhd, bnt⟩ := b
  unfold Od.val Od.cs at *
  simp only at HMA HMB ⊢
  generalize hD : decide ((acl = bcl ∧ asq = bsq) ∨ akd = 6 ∨ bkd = 6 ∨ (akd = 1 ∧ bkd = 1)) = hd at *
  have HMF : Hid (noMeet TA TB TA.length → meetL TA TB = false) := meet_false
  have HMT : Hid (∀ i k (hi : i < TA.length) (hk : k < TB.length), TA[i] = TB[k] → meetL TA TB = true) := fun i k hi hk h => meet_true hi hk h
  generalize meetL TA TB = res at *
  have hba := (Blk.new w 47 #[.int .i64 acl, .int .i64 asq, .int .i64 akd, .string aac, .string ape, .int .i64 asm, .slice vA na ca, .int .i64 apr, .int .i64 ahd, .string ant]).alloc (.cells #[.int .i64 bcl, .int .i64 bsq, .int .i64 bkd, .string bac, .string bpe, .int .i64 bsm, .slice vB nb cb, .int .i64 bpr, .int .i64 bhd, .string bnt] 47)
  have hbb := Blk.new (w.alloc (.cells #[.int .i64 acl, .int .i64 asq, .int .i64 akd, .string aac, .string ape, .int .i64 asm, .slice vA na ca, .int .i64 apr, .int .i64 ahd, .string ant] 47)) 47 #[.int .i64 bcl, .int .i64 bsq, .int .i64 bkd, .string bac, .string bpe, .int .i64 bsm, .slice vB nb cb, .int .i64 bpr, .int .i64 bhd, .string bnt]
  rw [World.size_alloc] at hbb
  have HF1 : Hid (Fr No w ((w.alloc (.cells #[.int .i64 acl, .int .i64 asq, .int .i64 akd, .string aac, .string ape, .int .i64 asm, .slice vA na ca, .int .i64 apr, .int .i64 ahd, .string ant] 47)).alloc (.cells #[.int .i64 bcl, .int .i64 bsq, .int .i64 bkd, .string bac, .string bpe, .int .i64 bsm, .slice vB nb cb, .int .i64 bpr, .int .i64 bhd, .string bnt] 47))) := ((Fr.refl _ _).alloc _).alloc _
  have a0 := hba.cell 0
  have a1 := hba.cell 1
  have a2 := hba.cell 2
  have b0 := hbb.cell 0
  have b1 := hbb.cell 1
  have b2 := hbb.cell 2
  simp only [List.getElem?_toArray, List.getElem?_cons_zero, List.getElem?_cons_succ] at a0 a1 a2 b0 b1 b2
  go_enter Tryz.func42, Tryz.ntmps42
  go_upto_region 1 with (fail)
  generalize (w.alloc (.cells #[.int .i64 acl, .int .i64 asq, .int .i64 akd, .string aac, .string ape, .int .i64 asm, .slice vA na ca, .int .i64 apr, .int .i64 ahd, .string ant] 47)).alloc (.cells #[.int .i64 bcl, .int .i64 bsq, .int .i64 bkd, .string bac, .string bpe, .int .i64 bsm, .slice vB nb cb, .int .i64 bpr, .int .i64 bhd, .string bnt] 47) = w2 at *
  have HX : Hid (∀ W, Fr No w2 W → Fr No w2 W ∧ W.cell? ⟨w.heap.size, 0, none⟩ = some (.int .i64 acl) ∧ W.cell? ⟨w.heap.size, 1, none⟩ = some (.int .i64 asq) ∧ W.cell? ⟨w.heap.size, 2, none⟩ = some (.int .i64 akd) ∧ W.cell? ⟨w.heap.size, 3, none⟩ = some (.string aac) ∧ W.cell? ⟨w.heap.size, 4, none⟩ = some (.string ape) ∧ W.cell? ⟨w.heap.size, 5, none⟩ = some (.int .i64 asm) ∧ W.cell? ⟨w.heap.size, 6, none⟩ = some (.slice vA na ca) ∧ W.cell? ⟨w.heap.size, 7, none⟩ = some (.int .i64 apr) ∧ W.cell? ⟨w.heap.size, 8, none⟩ = some (.int .i64 ahd) ∧ W.cell? ⟨w.heap.size, 9, none⟩ = some (.string ant) ∧ W.cell? ⟨w.heap.size + 1, 0, none⟩ = some (.int .i64 bcl) ∧ W.cell? ⟨w.heap.size + 1, 1, none⟩ = some (.int .i64 bsq) ∧ W.cell? ⟨w.heap.size + 1, 2, none⟩ = some (.int .i64 bkd) ∧ W.cell? ⟨w.heap.size + 1, 3, none⟩ = some (.string bac) ∧ W.cell? ⟨w.heap.size + 1, 4, none⟩ = some (.string bpe) ∧ W.cell? ⟨w.heap.size + 1, 5, none⟩ = some (.int .i64 bsm) ∧ W.cell? ⟨w.heap.size + 1, 6, none⟩ = some (.slice vB nb cb) ∧ W.cell? ⟨w.heap.size + 1, 7, none⟩ = some (.int .i64 bpr) ∧ W.cell? ⟨w.heap.size + 1, 8, none⟩ = some (.int .i64 bhd) ∧ W.cell? ⟨w.heap.size + 1, 9, none⟩ = some (.string bnt)) := fun W hW => by
    have h1 := hba.fr hW (fun h => h)
    have h2 := hbb.fr hW (fun h => h)
    exact ⟨hW, h1.cell 0, h1.cell 1, h1.cell 2, h1.cell 3, h1.cell 4, h1.cell 5, h1.cell 6, h1.cell 7, h1.cell 8, h1.cell 9, h2.cell 0, h2.cell 1, h2.cell 2, h2.cell 3, h2.cell 4, h2.cell 5, h2.cell 6, h2.cell 7, h2.cell 8, h2.cell 9⟩
  have hk0 : Fr No w2 w2.drew := (Fr.refl _ w2).drew
  clear hba hbb
  by_cases hid : acl = bcl ∧ asq = bsq
  · obtain rfl : hd = true := by rw [← hD]; exact decide_eq_true (.inl hid)
    obtain ⟨rfl, rfl⟩ := hid
    clear hD
    go_wp2
    go_ret
    exact ⟨rfl, HF1.out⟩
  by_cases h6 : akd = 6
  · obtain rfl : hd = true := by rw [← hD]; exact decide_eq_true (.inr (.inl h6))
    subst h6
    rcases Decidable.not_and_iff_or_not.1 hid with h | h
    · have hz : (acl == bcl) = false := beq_eq_false_iff_ne.2 h
      clear hD
      go_wp2
      go_ret
      exact ⟨rfl, HF1.out⟩
    · have hz : (asq == bsq) = false := beq_eq_false_iff_ne.2 h
      clear hD
      go_wp2
      go_ret
      exact ⟨rfl, HF1.out⟩
  by_cases g6 : bkd = 6
  · obtain rfl : hd = true := by rw [← hD]; exact decide_eq_true (.inr (.inr (.inl g6)))
    subst g6
    have hk : (akd == 6) = false := beq_eq_false_iff_ne.2 h6
    rcases Decidable.not_and_iff_or_not.1 hid with h | h
    · have hz : (acl == bcl) = false := beq_eq_false_iff_ne.2 h
      clear hD
      go_wp2
      go_ret
      exact ⟨rfl, HF1.out⟩
    · have hz : (asq == bsq) = false := beq_eq_false_iff_ne.2 h
      clear hD
      go_wp2
      go_ret
      exact ⟨rfl, HF1.out⟩
  have hk : (akd == 6) = false := beq_eq_false_iff_ne.2 h6
  have gk : (bkd == 6) = false := beq_eq_false_iff_ne.2 g6
  by_cases ho : akd = 1 ∧ bkd = 1
  · obtain rfl : hd = true := by rw [← hD]; exact decide_eq_true (.inr (.inr (.inr ho)))
    obtain ⟨rfl, rfl⟩ := ho
    rcases Decidable.not_and_iff_or_not.1 hid with h | h
    · have hz : (acl == bcl) = false := beq_eq_false_iff_ne.2 h
      clear hD
      go_wp2
      go_ret
      exact ⟨rfl, HF1.out⟩
    · have hz : (asq == bsq) = false := beq_eq_false_iff_ne.2 h
      clear hD
      go_wp2
      go_ret
      exact ⟨rfl, HF1.out⟩
  obtain rfl : hd = false := by
    rw [← hD]
    exact decide_eq_false (by rintro (h | h | h | h); exact hid h; exact h6 h; exact g6 h; exact ho h)
  clear hD
  have hz : (acl == bcl && asq == bsq) = false := by
    rcases Decidable.not_and_iff_or_not.1 hid with h | h
    · rw [beq_eq_false_iff_ne.2 h]; rfl
    · rw [beq_eq_false_iff_ne.2 h, Bool.and_false]
  have hcase : ((akd == 1) = true ∧ (bkd == 1) = false) ∨ (akd == 1) = false := by
    by_cases o1 : akd = 1
    · exact .inl ⟨beq_iff_eq.2 o1, beq_eq_false_iff_ne.2 fun e => ho ⟨o1, e⟩⟩
    · exact .inr (beq_eq_false_iff_ne.2 o1)
  have hid2 := Decidable.not_and_iff_or_not.1 hid
  clear hz
  have hcase2 : ((acl == bcl) = false ∨ (asq == bsq) = false) := hid2.imp (fun h => beq_eq_false_iff_ne.2 h) (fun h => beq_eq_false_iff_ne.2 h)
  rcases hcase with ⟨o1, o2⟩ | o2 <;> rcases hcase2 with hz | hz
  all_goals go_upto_region 3 with (fail)
  all_goals clear a0 a1 a2 b0 b1 b2
  all_goals (
    go_region_held3 (fun W => Fr No w2 W ∧ W.cell? ⟨w.heap.size, 0, none⟩ = some (.int .i64 acl) ∧ W.cell? ⟨w.heap.size, 1, none⟩ = some (.int .i64 asq) ∧ W.cell? ⟨w.heap.size, 2, none⟩ = some (.int .i64 akd) ∧ W.cell? ⟨w.heap.size, 3, none⟩ = some (.string aac) ∧ W.cell? ⟨w.heap.size, 4, none⟩ = some (.string ape) ∧ W.cell? ⟨w.heap.size, 5, none⟩ = some (.int .i64 asm) ∧ W.cell? ⟨w.heap.size, 6, none⟩ = some (.slice vA na ca) ∧ W.cell? ⟨w.heap.size, 7, none⟩ = some (.int .i64 apr) ∧ W.cell? ⟨w.heap.size, 8, none⟩ = some (.int .i64 ahd) ∧ W.cell? ⟨w.heap.size, 9, none⟩ = some (.string ant) ∧ W.cell? ⟨w.heap.size + 1, 0, none⟩ = some (.int .i64 bcl) ∧ W.cell? ⟨w.heap.size + 1, 1, none⟩ = some (.int .i64 bsq) ∧ W.cell? ⟨w.heap.size + 1, 2, none⟩ = some (.int .i64 bkd) ∧ W.cell? ⟨w.heap.size + 1, 3, none⟩ = some (.string bac) ∧ W.cell? ⟨w.heap.size + 1, 4, none⟩ = some (.string bpe) ∧ W.cell? ⟨w.heap.size + 1, 5, none⟩ = some (.int .i64 bsm) ∧ W.cell? ⟨w.heap.size + 1, 6, none⟩ = some (.slice vB nb cb) ∧ W.cell? ⟨w.heap.size + 1, 7, none⟩ = some (.int .i64 bpr) ∧ W.cell? ⟨w.heap.size + 1, 8, none⟩ = some (.int .i64 bhd) ∧ W.cell? ⟨w.heap.size + 1, 9, none⟩ = some (.string bnt))
      (first
        | (with_reducible refine HX.out _ ?_; with_reducible assumption)
        | (with_reducible refine HX.out _ (Fr.drew ?_); with_reducible first | assumption | exact Fr.refl _ w2))
      (first
        | (go_at_call 72; (with_reducible refine (HMA.out _ HF1.out.drew).mono ?_); rintro e q1 ⟨A1, c1, rfl, ho1, hl1, hm1, hg1, hn1⟩; have ka1 : Fr No w2 q1 := hk0.trans hg1)
        | (go_at_call 72; (with_reducible refine (HMB.out _ (HF1.out.trans ka1)).mono ?_); rintro e q2 ⟨A2, c2, rfl, ho2, hl2, hm2, hg2, hn2⟩; have ka2 : Fr No w2 q2 := ka1.trans hg2; have ho12 := ho1.fr hg2 (fun _ _ h => h)))
    have HR := Lib.hid ho12.rd
    have HS := Lib.hid ho2.rd
    have HKA := Lib.hid (HF1.out.trans ka2)
    clear ho12 ho2 ho1 HMA HMB HX
    go_wp2
    go_loopw [7] (fun iv wr => OutRel q2 TA TB iv wr) (fun iv _ => TA.length - (intOf iv).toNat)
    case atStart => exact ⟨0, Nat.zero_le _, rfl, fun s h => by simp at h, Fr.refl _ _⟩
    case round =>
      obtain ⟨i, hi, rfl, hno, hfr⟩ := hrel
      have hi62 : (i : Int) < 9223372036854775807 := by have := HTA.out; omega
      by_cases hlt : i < TA.length
      · have HFO := Lib.hid hfr
        have HNO := Lib.hid hno
        clear hfr hno
        generalize wr = wo at *
        go_wp2
        go_loopw [8] (fun kv wr => InnRel wo TA[i] TB kv wr) (fun kv _ => TB.length - (intOf kv).toNat)
        case atStart => exact ⟨0, Nat.zero_le _, rfl, fun h => by simp at h, Fr.refl _ _⟩
        case round =>
          obtain ⟨k, hk, rfl, hnk, hfr2⟩ := hrel
          have hk62 : (k : Int) < 9223372036854775807 := by have := HTB.out; omega
          by_cases hkl : k < TB.length
          · obtain ⟨ad, hl1, rfl, _, p0⟩ := ts_at (HR.out.fr (by omega) (HFO.out.trans hfr2) (fun _ _ _ h => h)) i hlt
            obtain ⟨bd, hl2, rfl, _, p1⟩ := ts_at (HS.out.fr (by omega) (HFO.out.trans hfr2) (fun _ _ _ h => h)) k hkl
            have HEQ : Hid (TA[i] = TB[k] → res = true) := HMT.out i k hlt hkl
            have HNX : Hid (TA[i] ≠ TB[k] → TA[i] ∉ TB.take (k + 1)) := fun h hm => by
              rw [List.take_succ_eq_append_getElem hl2, List.mem_append, List.mem_singleton] at hm
              rcases hm with hm | hm
              · exact hnk hm
              · exact h hm
            have HFR := Lib.hid hfr2
            have HKL : Hid (k + 1 ≤ TB.length) := hkl
            clear hfr2 hnk
            generalize TA[i] = x at *
            generalize TB[k] = y at *
            by_cases hxy : x = y
            · subst hxy
              obtain rfl : res = true := HEQ.out rfl
              go_wp2
              go_quiet (fail)
              go_wp2
              go_ret
              exact ⟨rfl, (HKA.out.trans (HFO.out.trans HFR.out)).drewN _⟩
            · have HX2 := Lib.hid (HNX.out hxy)
              have hz1 : (x == y) = false := beq_eq_false_iff_ne.2 hxy
              have hz2 : ((⟨x.toArray⟩ : ByteArray).toList == (⟨y.toArray⟩ : ByteArray).toList) = false := by rw [ByteArray.toList_eq, ByteArray.toList_eq]; exact hz1
              clear hxy
              go_wp2
              go_quiet (fail)
              go_wp2
              go_roundw
              case rel => exact ⟨k + 1, HKL.out, by go_num, HX2.out, HFR.out.drewN _⟩
              case measure => have := HKL.out; simp [intOf]; omega
          · obtain rfl : k = TB.length := by omega
            have HNN : Hid (noMeet TA TB (i + 1)) := fun s hs => by
              rw [List.take_succ_eq_append_getElem hlt, List.mem_append, List.mem_singleton] at hs
              rcases hs with hs | hs
              · exact HNO.out s hs
              · rw [hs]
                rw [List.take_length] at hnk
                exact hnk
            have HFR := Lib.hid hfr2
            have HLT : Hid (i + 1 ≤ TA.length) := hlt
            clear hfr2 hnk
            go_wp2
            go_roundw
            case rel => exact ⟨i + 1, HLT.out, by go_num, HNN.out, HFO.out.trans HFR.out⟩
            case measure => have := HLT.out; simp [intOf]; omega
      · obtain rfl : i = TA.length := by omega
        obtain rfl : res = false := HMF.out hno
        clear hno
        go_wp2
        go_ret
        exact ⟨by first | rfl | simp | (show _ = Ending.returned (Value.bool false); rfl), HKA.out.trans hfr⟩)
end Go.Proofs.YtnphncemghfkbaaGreat
