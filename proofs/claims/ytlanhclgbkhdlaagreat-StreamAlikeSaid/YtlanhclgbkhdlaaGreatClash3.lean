/- Two marked orders clash: the walk. -/
import Derived.Test.YtlanhclgbkhdlaaGreatQ17
namespace Go.Proofs.YtlanhclgbkhdlaaGreat
open Go.RowKit Go.My Go.Maps
set_option linter.unusedSimpArgs false
set_option linter.unusedVariables false
attribute [local go_sem ↓] Go.wp_at_zero Go.wp_at_succ

theorem clashT_any (F : Nat → Prop) (B : Option Addr) (d g : Nat) (M : List (List UInt8)) (x : List UInt8) (w : World) (hr : Rd w F 1 B M.length (ts M)) (hl : M.length ≤ 1000000) (hg : w.cell? ⟨g, 10, none⟩ = some (.slice B M.length d)) :
    Calls Tryz.prog 58 #[.string ⟨x.toArray⟩, .pointer (some ⟨g, 0, none⟩)] w fun e w' => e = .returned (.bool (decide (x ∈ M))) ∧ Fr No w w' := by
  have HX := Lib.hid (containsT_any F B d M x w hr hl)
  clear hr hl
  go_enter Tryz.func58, Tryz.ntmps58
  go_wp2_with fail
  refine HX.out.mono ?_
  rintro e w1 ⟨rfl, rfl⟩
  go_wp2
  go_ret
  exact ⟨rfl, Fr.refl _ _⟩
def hardB (a b : Od) : Bool := decide (a.id = b.id ∨ a.kd = 6 ∨ b.kd = 6 ∨ (a.kd = 1 ∧ b.kd = 1))
set_option maxRecDepth 100000 in
set_option maxHeartbeats 2000000 in
theorem clashes_any (F G : Nat → Prop) (a b : Od) (va vb : Value) (A B : Option Addr) (c d : Nat) (L M : List (List UInt8)) (w : World) (hl : Rd w F 1 A L.length (ts L)) (hm : Rd w G 1 B M.length (ts M)) (h1 : L.length ≤ 1000000) (h2 : M.length ≤ 1000000) :
    Calls Tryz.prog 43 #[mkd a va (.slice A L.length c), mkd b vb (.slice B M.length d)] w fun e w' => e = .returned (.bool (hardB a b || meetL L M)) ∧ Fr No w w' := by
  have HCF : Hid (∀ W g, Fr No w W → W.cell? ⟨g, 10, none⟩ = some (.slice B M.length d) → Calls Tryz.prog 57 #[.slice A L.length c, .func (.func 58) #[] #[.pointer (some ⟨g, 0, none⟩)]] W fun e w' => e = .returned (.bool (meetL L M)) ∧ Fr No W w') := fun W g hW hg =>
    containsS_any F A c L 58 #[.pointer (some ⟨g, 0, none⟩)] (fun s => decide (s ∈ M)) W (hl.fr (by omega) hW fun _ _ _ h => h) h1 (enters_of Tryz.func58 (by kernel_rfl) rfl) (fun W' hW' x hx => clashT_any G B d g M x W' ((hm.fr (by omega) hW fun _ _ _ h => h).fr (by omega) hW' fun _ _ _ h => h) h2 (hW'.cell_some hg (fun h => h)))
  clear hl hm h1 h2
  obtain ⟨acl, asq, akd, aac, ape, asm, alg, apr, ahd, ant⟩ := a
  obtain ⟨bcl, bsq, bkd, bac, bpe, bsm, blg, bpr, bhd, bnt⟩ := b
  unfold mkd Od.cs at *
  simp only [List.cons_append, List.nil_append] at *
  have ha := (Blk.new w 97 #[.int .i64 acl, .int .i64 asq, .int .i64 akd, .string aac, .string ape, .int .i64 asm, va, .int .i64 apr, .int .i64 ahd, .string ant, .slice A L.length c]).alloc (.cells #[.int .i64 bcl, .int .i64 bsq, .int .i64 bkd, .string bac, .string bpe, .int .i64 bsm, vb, .int .i64 bpr, .int .i64 bhd, .string bnt, .slice B M.length d] 97)
  have hb := Blk.new (w.alloc (.cells #[.int .i64 acl, .int .i64 asq, .int .i64 akd, .string aac, .string ape, .int .i64 asm, va, .int .i64 apr, .int .i64 ahd, .string ant, .slice A L.length c] 97)) 97 #[.int .i64 bcl, .int .i64 bsq, .int .i64 bkd, .string bac, .string bpe, .int .i64 bsm, vb, .int .i64 bpr, .int .i64 bhd, .string bnt, .slice B M.length d]
  rw [World.size_alloc] at hb
  have HF1 : Hid (Fr No w ((w.alloc (.cells #[.int .i64 acl, .int .i64 asq, .int .i64 akd, .string aac, .string ape, .int .i64 asm, va, .int .i64 apr, .int .i64 ahd, .string ant, .slice A L.length c] 97)).alloc (.cells #[.int .i64 bcl, .int .i64 bsq, .int .i64 bkd, .string bac, .string bpe, .int .i64 bsm, vb, .int .i64 bpr, .int .i64 bhd, .string bnt, .slice B M.length d] 97))) := ((Fr.refl _ _).alloc _).alloc _
  have a0 := ha.cell 0
  have a1 := ha.cell 1
  have a2 := ha.cell 2
  have a10 := ha.cell 10
  have b0 := hb.cell 0
  have b1 := hb.cell 1
  have b2 := hb.cell 2
  have b10 := hb.cell 10
  simp only [List.getElem?_toArray, List.getElem?_cons_zero, List.getElem?_cons_succ] at a0 a1 a2 a10 b0 b1 b2 b10
  clear ha hb
  have hHB : hardB ⟨acl, asq, akd, aac, ape, asm, alg, apr, ahd, ant⟩ ⟨bcl, bsq, bkd, bac, bpe, bsm, blg, bpr, bhd, bnt⟩ = decide ((acl = bcl ∧ asq = bsq) ∨ akd = 6 ∨ bkd = 6 ∨ (akd = 1 ∧ bkd = 1)) := by
    unfold hardB Od.id
    simp only [Prod.mk.injEq]
  rw [hHB]
  clear hHB
  generalize hD : decide ((acl = bcl ∧ asq = bsq) ∨ akd = 6 ∨ bkd = 6 ∨ (akd = 1 ∧ bkd = 1)) = hd at *
  generalize meetL L M = res at *
  go_enter Tryz.func43, Tryz.ntmps43
  go_upto_region 1 with (fail)
  generalize (w.alloc (.cells #[.int .i64 acl, .int .i64 asq, .int .i64 akd, .string aac, .string ape, .int .i64 asm, va, .int .i64 apr, .int .i64 ahd, .string ant, .slice A L.length c] 97)).alloc (.cells #[.int .i64 bcl, .int .i64 bsq, .int .i64 bkd, .string bac, .string bpe, .int .i64 bsm, vb, .int .i64 bpr, .int .i64 bhd, .string bnt, .slice B M.length d] 97) = w1 at *
  by_cases hid : acl = bcl ∧ asq = bsq
  · obtain rfl : hd = true := by rw [← hD]; exact decide_eq_true (.inl hid)
    obtain ⟨rfl, rfl⟩ := hid
    clear hD
    go_wp2
    go_ret
    exact ⟨rfl, HF1.out⟩
  by_cases h6 : akd = 6
  · obtain rfl : hd = true := by rw [← hD]; exact decide_eq_true (.inr (.inl h6))
    subst h6
    rcases Decidable.not_and_iff_or_not.1 hid with h | h
    · have hz : (acl == bcl) = false := beq_eq_false_iff_ne.2 h
      clear hD
      go_wp2
      go_ret
      exact ⟨rfl, HF1.out⟩
    · have hz : (asq == bsq) = false := beq_eq_false_iff_ne.2 h
      clear hD
      go_wp2
      go_ret
      exact ⟨rfl, HF1.out⟩
  by_cases g6 : bkd = 6
  · obtain rfl : hd = true := by rw [← hD]; exact decide_eq_true (.inr (.inr (.inl g6)))
    subst g6
    have hk : (akd == 6) = false := beq_eq_false_iff_ne.2 h6
    rcases Decidable.not_and_iff_or_not.1 hid with h | h
    · have hz : (acl == bcl) = false := beq_eq_false_iff_ne.2 h
      clear hD
      go_wp2
      go_ret
      exact ⟨rfl, HF1.out⟩
    · have hz : (asq == bsq) = false := beq_eq_false_iff_ne.2 h
      clear hD
      go_wp2
      go_ret
      exact ⟨rfl, HF1.out⟩
  have hk : (akd == 6) = false := beq_eq_false_iff_ne.2 h6
  have gk : (bkd == 6) = false := beq_eq_false_iff_ne.2 g6
  by_cases ho : akd = 1 ∧ bkd = 1
  · obtain rfl : hd = true := by rw [← hD]; exact decide_eq_true (.inr (.inr (.inr ho)))
    obtain ⟨rfl, rfl⟩ := ho
    rcases Decidable.not_and_iff_or_not.1 hid with h | h
    · have hz : (acl == bcl) = false := beq_eq_false_iff_ne.2 h
      clear hD
      go_wp2
      go_ret
      exact ⟨rfl, HF1.out⟩
    · have hz : (asq == bsq) = false := beq_eq_false_iff_ne.2 h
      clear hD
      go_wp2
      go_ret
      exact ⟨rfl, HF1.out⟩
  obtain rfl : hd = false := by
    rw [← hD]
    exact decide_eq_false (by rintro (h | h | h | h); exact hid h; exact h6 h; exact g6 h; exact ho h)
  have HC1 := Lib.hid (HCF.out w1 (w.heap.size + 1) HF1.out b10)
  clear HCF
  by_cases o1 : akd = 1
  · have o2 : (bkd == 1) = false := beq_eq_false_iff_ne.2 fun e => ho ⟨o1, e⟩
    subst o1
    rcases Decidable.not_and_iff_or_not.1 hid with h | h
    · have hz : (acl == bcl) = false := beq_eq_false_iff_ne.2 h
      clear hD
      go_wp2_with fail
      (with_reducible refine HC1.out.mono ?_)
      rintro e w2 ⟨rfl, hf2⟩
      go_wp2
      go_ret
      exact ⟨rfl, HF1.out.trans hf2⟩
    · have hz : (asq == bsq) = false := beq_eq_false_iff_ne.2 h
      clear hD
      go_wp2_with fail
      (with_reducible refine HC1.out.mono ?_)
      rintro e w2 ⟨rfl, hf2⟩
      go_wp2
      go_ret
      exact ⟨rfl, HF1.out.trans hf2⟩
  · have o2 : (akd == 1) = false := beq_eq_false_iff_ne.2 o1
    rcases Decidable.not_and_iff_or_not.1 hid with h | h
    · have hz : (acl == bcl) = false := beq_eq_false_iff_ne.2 h
      clear hD
      go_wp2_with fail
      (with_reducible refine HC1.out.mono ?_)
      rintro e w2 ⟨rfl, hf2⟩
      go_wp2
      go_ret
      exact ⟨rfl, HF1.out.trans hf2⟩
    · have hz : (asq == bsq) = false := beq_eq_false_iff_ne.2 h
      clear hD
      go_wp2_with fail
      (with_reducible refine HC1.out.mono ?_)
      rintro e w2 ⟨rfl, hf2⟩
      go_wp2
      go_ret
      exact ⟨rfl, HF1.out.trans hf2⟩
end Go.Proofs.YtlanhclgbkhdlaaGreat
