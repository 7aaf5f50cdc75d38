/- The laws of package frame, as walks: FrameSum. -/
import Derived.Test.YtjfbpnhkdlbinaaFrameLaw
namespace Go.Proofs.Ytjfbpnhkdlbinaa
open Go.RowKit Go.My
set_option linter.unusedSimpArgs false
set_option linter.unusedVariables false

/-- the first bytes of what came in -/
theorem rd_take {w : World} {F : Nat → Prop} {A : Option Addr} (l : List UInt8) (m : Nat) (rd : Rd w F 1 A l.length (bs l)) : Rd w F 1 A (min l.length m) (bs (l.take m)) ∧ (l.take m).length = min l.length m := by
  have h1 : (l.take m).length = min l.length m := by simp; omega
  have := rd.take (k := min l.length m) (by omega)
  rw [Nat.mul_one, ← bs_take] at this
  have e : l.take (min l.length m) = l.take m := by
    rcases Nat.le_total l.length m with h | h
    · rw [Nat.min_eq_left h, List.take_length, List.take_of_length_le h]
    · rw [Nat.min_eq_right h]
  rw [e] at this
  exact ⟨this, h1⟩
theorem le4_cells (l : List UInt8) : #[Value.int .u8 ((sumF l : Int) % 256), .int .u8 ((sumF l : Int) / 256 % 256), .int .u8 ((sumF l : Int) / 65536 % 256), .int .u8 ((sumF l : Int) / 16777216 % 256)].toList = bs (le4 (ones ^^^ crc ones l)) := by
  have h : sumF l = (ones ^^^ crc ones l).toNat := rfl
  have hs := (ones ^^^ crc ones l).isLt
  rw [← h] at hs
  simp only [bs, le4, ← h, List.map_cons, List.map_nil, List.cons_append, List.nil_append, u8_of, List.cons.injEq, Value.int.injEq, true_and, and_true]
  refine ⟨?_, ?_, ?_, ?_⟩ <;> omega

set_option maxRecDepth 100000 in
set_option maxHeartbeats 1000000 in
theorem frameSum_walk (A : Option Addr) (c : Nat) (l : List UInt8) (a cb : Int) (w : World) (rd : Rd w (Lt w.heap.size) 1 A l.length (bs l)) (lc : l.length ≤ c) (cm : c ≤ maxLen)
    (ha : -9223372036854775808 ≤ a ∧ a ≤ 9223372036854775807) (hcb : 0 ≤ cb ∧ cb ≤ 255) : Calls Try.prog 10 #[.slice A l.length c, .int .i64 a, .int .u8 cb] w (RetTrue w) := by
  obtain ⟨cv, rfl⟩ : ∃ cv : UInt8, cb = (cv.toNat : Int) := ⟨UInt8.ofNat cb.toNat, by rw [u8_of]; omega⟩
  obtain ⟨rdB, hB1⟩ := rd_take l 5000 rd
  have HE := Lib.hid fun w => early3_any A l.length c w lc cm
  generalize l.take 5000 = B at *
  generalize l.length = L at *
  have hB2 : B.length ≤ 5000 := by omega
  have hBc : B.length ≤ c := by omega
  rw [← hB1] at rdB HE
  clear rd hB1 lc
  go_enter Try.func10, Try.ntmps10
  go_wp2_with fail
  refine (livesF _).mono ?_
  rintro e w1 ⟨rfl, hb1⟩
  go_wp2_with fail
  refine (HE.out _).mono ?_
  rintro e w1' ⟨rfl, rfl⟩
  have rd1 : Rd w1 (Lt w.heap.size) 1 A B.length (bs B) := rdB.below hb1 fun _ h => h
  have hs1 := hb1.size
  go_wp2_with fail
  refine (sumf_any _ A c B w1 rd1 (by omega)).mono ?_
  rintro e w2 ⟨rfl, hb2⟩
  have rd2 : Rd w2 (Lt w.heap.size) 1 A B.length (bs B) := rd1.below hb2 fun k hk => Nat.lt_of_lt_of_le hk hs1
  have hf2 : Below w.heap.size w w2 := below_fresh hb1 hb2 hs1
  have hs2 := hf2.size
  clear rd1 hb1 hb2
  have hsrc : Src Try.prog w2 1 25 (.slice A B.length c) B.length (bs B) := Src.of_rd rd2 (bs_one B) Try.underlying25
  have HLE := Lib.hid (le4_cells B)
  have HRES := Lib.hid (residue B)
  go_wp2_with (first
    | (at_builtin; refine wpList_app _ rfl (.const (.slice none 0 0)) (.tmp 17) 25 25 rfl elB (Own.nil _ _ _) rfl hsrc rfl (by simp only [maxLen]; omega) (by omega) ?_; intro v5 w5 ho5 hf5 hn5; rw [Nat.zero_add, List.nil_append] at ho5
       have ho6 := ho5.alloc (.cells #[Value.int .u8 ((sumF B : Int) % 256), .int .u8 ((sumF B : Int) / 256 % 256), .int .u8 ((sumF B : Int) / 65536 % 256), .int .u8 ((sumF B : Int) / 16777216 % 256)] 5)
       have hf6 : Below w.heap.size w (w5.alloc (.cells #[Value.int .u8 ((sumF B : Int) % 256), .int .u8 ((sumF B : Int) / 256 % 256), .int .u8 ((sumF B : Int) / 65536 % 256), .int .u8 ((sumF B : Int) / 16777216 % 256)] 5)) := (below_fr_no hf2 (fr_at_none hf5) hs2).alloc (below_fr_no hf2 (fr_at_none hf5) hs2).size _
       have hsrc6 : Src Try.prog (w5.alloc (.cells #[Value.int .u8 ((sumF B : Int) % 256), .int .u8 ((sumF B : Int) / 256 % 256), .int .u8 ((sumF B : Int) / 65536 % 256), .int .u8 ((sumF B : Int) / 16777216 % 256)] 5)) 1 25 (.slice (some ⟨w5.heap.size, 0, none⟩) 4 4) 4 (bs (le4 (ones ^^^ crc ones B))) := by
         rw [← HLE.out]
         exact Src.of_new _ (heap_alloc_new _ _) Try.underlying25 rfl (by simp [Value.oneCell'])
       have hn6 : Newer w.heap.size none v5.ownBlock := Newer.trans (.inl rfl) (Newer.of hn5) hs2
       clear ho5 hf5 hn5 hsrc)
    | (at_builtin; refine wpList_app _ rfl (.tmp 18) (.tmp 30) 25 25 rfl elB ho6 rfl hsrc6 rfl (by simp only [maxLen]; omega) (by omega) ?_; intro v7 w7 ho7 hf7 hn7; rw [← bs_append] at ho7; obtain ⟨A7, c7, rfl, hl7, hm7⟩ := ho7.form))
  have hl4 : (B ++ le4 (ones ^^^ crc ones B)).length = B.length + 4 := by rw [List.length_append]; rfl
  have hsum := sumf_any _ A7 c7 (B ++ le4 (ones ^^^ crc ones B)) w7 (by rw [hl4]; exact ho7.rd) (by omega)
  rw [hl4, HRES.out] at hsum
  have hf7' : Below w.heap.size w w7 := below_fr hf6 hf7 hf6.size (fun i hi => newer_none hn6 i hi)
  refine hsum.mono ?_
  rintro e w8 ⟨rfl, hb8⟩
  have hf8 : Below w.heap.size w w8 := below_fresh hf7' hb8 hf7'.size
  have hs8 := hf8.size
  have rd8 : Rd w8 (Lt w.heap.size) 1 A B.length (bs B) := rdB.below hf8 fun _ h => h
  clear hsum hl4 hb8 hf7' ho7 hn7 hf7 ho6 hn6 hf6 hsrc6 HLE HRES hl7 hm7 rd2 hf2
  by_cases h0 : B = []
  · subst h0
    have hz : sumF [] = 0 := by decide
    go_wp2
    go_ret
    exact ⟨rfl, hf8⟩
  · have hpos : 0 < B.length := List.length_pos_iff.2 h0
    have hz : ((B.length : Int) == 0) = false := by rw [beq_eq_false_iff_ne]; omega
    obtain ⟨k, hk, hkl⟩ := umod a B.length hpos (by omega)
    have hsrc8 : Src Try.prog w8 1 25 (.slice A B.length c) B.length (bs B) := Src.of_rd rd8 (bs_one B) Try.underlying25
    have HK := Lib.hid hk
    clear hk
    go_upto_region 12 with (at_builtin; refine wpList_app _ rfl (.const (.slice none 0 0)) (.tmp 47) 25 25 rfl elB (Own.nil _ _ _) rfl hsrc8 rfl (by simp only [maxLen]; omega) (by omega) ?_; intro v9 w9 ho9 hf9 hn9; rw [Nat.zero_add, List.nil_append] at ho9)
    rw [HK.out]
    have hn9' : Newer w.heap.size none v9.ownBlock := Newer.trans (.inl rfl) (Newer.of hn9) hs8
    have hf9' : Below w.heap.size w w9 := below_fr_no hf8 (fr_at_none hf9) hs8
    obtain ⟨g, c9, cur, rfl, hgb, hl9, hm9, _, _⟩ := ho9.formPos hpos
    have hg : w.heap.size ≤ g := newer_none hn9' g rfl
    obtain ⟨hos, ⟨y, hy⟩, hfz⟩ := ho9.store k hkl (.int .u8 (cv.toNat : Int))
    have hset : (bs B).set k (.int .u8 (cv.toNat : Int)) = bs (B.set k cv) := by simp [bs, List.map_set]
    rw [hset] at hos
    have hf10 : Below w.heap.size w (w9.setCell ⟨g, k, none⟩ (.int .u8 (cv.toNat : Int))) := hf9'.setCell hg _
    have hs9 := hf9'.size
    have rd10 : Rd (w9.setCell ⟨g, k, none⟩ (.int .u8 (cv.toNat : Int))) (Lt w.heap.size) 1 A B.length (bs B) := rdB.below hf10 fun _ h => h
    obtain ⟨ad, u, rfl, hadlt, hx, hcell⟩ := rd10.at_ hkl
    rw [bs_get B k hkl] at hx
    injection hx with hx
    subst hx
    have hlset : (B.set k cv).length = B.length := by simp
    have hsum := sumf_any _ (some ⟨g, 0, none⟩) c9 (B.set k cv) (w9.setCell ⟨g, k, none⟩ (.int .u8 (cv.toNat : Int))).drew (by rw [hlset]; exact Own.rd (w := (w9.setCell ⟨g, k, none⟩ (.int .u8 (cv.toNat : Int))).drew) (hos.drew)) (by omega)
    rw [hlset] at hsum
    have hfin : Hid (((sumF (B.set k cv) : Int) == (sumF B : Int)) = ((cv.toNat : Int) == (B[k].toNat : Int))) := by
      show _ = _
      rw [Bool.eq_iff_iff, beq_iff_eq, beq_iff_eq]
      have h1 := crc_set B ones k hkl cv
      have h2 := sumF_eq (a := B.set k cv) (b := B)
      constructor
      · intro h
        have := h1.1 (h2.1 (by omega))
        rw [this]
      · intro h
        have : cv = B[k] := UInt8.toNat_inj.1 (by omega)
        have := h2.2 (h1.2 this)
        omega
    have HSUM := Lib.hid hsum
    generalize sumF (B.set k cv) = s1 at *
    generalize sumF B = s0 at *
    generalize B[k] = bk at *
    clear hsum hlset hset rd10 ho9 hf9 hn9 hn9' hos hgb rd8 hsrc8
    go_wp2_with fail
    have HC : Hid (∀ W, Below (w9.setCell ⟨g, k, none⟩ (.int .u8 (cv.toNat : Int))).drew.heap.size (w9.setCell ⟨g, k, none⟩ (.int .u8 (cv.toNat : Int))).drew W → W.cell? (ad.add k) = some (.int .u8 (bk.toNat : Int))) := fun W hW =>
      (hW.cell (p := ad.add k) (World.block_lt_of_cell? (w9.setCell ⟨g, k, none⟩ (.int .u8 (cv.toNat : Int))).drew _ hcell)).trans hcell
    have HB : Hid (∀ W, Below (w9.setCell ⟨g, k, none⟩ (.int .u8 (cv.toNat : Int))).drew.heap.size (w9.setCell ⟨g, k, none⟩ (.int .u8 (cv.toNat : Int))).drew W → Below w.heap.size w W) := fun W hW => below_fresh hf10.drew hW hf10.size
    go_region_with (go_at_call 36; refine HSUM.out.mono ?_; rintro e w11 ⟨rfl, hb11⟩; have hc11 := HC.out _ hb11)
    all_goals
      rw [hfin.out]
      have hbb : (((cv.toNat : Int) == (bk.toNat : Int)) == ((cv.toNat : Int) == (bk.toNat : Int))) = true := by simp
      rw [hbb]
      go_wp2
      go_ret
      exact ⟨rfl, HB.out _ hb11⟩
end Go.Proofs.Ytjfbpnhkdlbinaa
