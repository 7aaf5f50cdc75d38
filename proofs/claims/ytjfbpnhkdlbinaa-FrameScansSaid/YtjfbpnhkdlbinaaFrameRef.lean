/- Contracts of the document's own answers for package frame. -/
import Derived.Test.YtjfbpnhkdlbinaaFrameLaw4
namespace Go.Proofs.Ytjfbpnhkdlbinaa
open Go.RowKit Go.My
set_option linter.unusedSimpArgs false
set_option linter.unusedVariables false

theorem odd_bit (h : BitVec 32) : (((h.toNat : Int) % 2 == 1) : Bool) = h.getLsbD 0 := by
  rw [Bool.eq_iff_iff, beq_iff_eq, BitVec.getLsbD, Nat.testBit_zero, decide_eq_true_eq]
  omega
theorem st_half (h : BitVec 32) (hb : h.getLsbD 0 = false) : ((st h).toNat : Int) = (h.toNat : Int) / 2 := by
  rw [st_even h hb]
  have := shr32 h 1
  exact this
theorem st_odd (h : BitVec 32) (hb : h.getLsbD 0 = true) : bits .xor .u32 ((h.toNat : Int) / 2) 3988292384 = ((st h).toNat : Int) := by
  have e1 : (h.toNat : Int) / (2 : Int) = ((h >>> 1).toNat : Int) := by have := (shr32 h 1).symm; exact this
  have e2 : bits .xor .u32 ((h.toNat : Int) / 2) 3988292384 = bits .xor .u32 ((h >>> 1).toNat : Int) ((poly.toNat : Nat) : Int) := by
    have e3 : ((poly.toNat : Nat) : Int) = 3988292384 := by decide
    rw [e3]
    exact congrArg (fun x => bits .xor .u32 x _) e1
  rw [e2, xor32]
  unfold st
  rw [hb]
  rfl

set_option maxHeartbeats 1000000 in
theorem rsum_any (F : Nat → Prop) (A : Option Addr) (c : Nat) (l : List UInt8) (w : World) (hr : Rd w F 1 A l.length (bs l)) (hl : l.length ≤ 9223372036854775807) :
    Calls Try.prog 37 #[.slice A l.length c] w (fun e w' => e = .returned (.int .u32 (sumF l : Int)) ∧ w = w') := by
  have HR := Lib.hid hr
  clear hr
  go_enter Try.func37, Try.ntmps37
  go_wp2
  go_loopw [3, 4] (fun h i wr => ∃ k : Nat, k ≤ l.length ∧ i = .int .i64 k ∧ h = u32v (crc ones (l.take k)) ∧ wr = w) (fun _ i _ => l.length - (intOf i).toNat)
  case atStart => exact ⟨0, Nat.zero_le _, rfl, rfl, rfl⟩
  case round =>
    obtain ⟨k, hk, rfl, rfl, rfl⟩ := hrel
    by_cases hlt : k < l.length
    · obtain ⟨ad, u, rfl, _, hx, hc⟩ := HR.out.at_ hlt
      rw [bs_get l k hlt] at hx
      injection hx with hx
      subst hx
      have htk : l.take (k + 1) = l.take k ++ [l[k]] := List.take_succ_eq_append_getElem hlt
      have hcr : crc ones (l.take (k + 1)) = st8 (crc ones (l.take k) ^^^ b32 l[k]) := by rw [htk, crc_append]; rfl
      have HC := Lib.hid hcr
      clear htk hcr
      generalize l[k] = b at *
      generalize crc ones (l.take k) = h at *
      unfold u32v
      have hb32 : (b.toNat : Int) % 4294967296 = b.toNat := by have := b.toNat_lt; omega
      have E1 := byte_bits h b
      rw [← hb32] at E1
      generalize (h ^^^ b32 b) = h1 at *
      clear hb32
      go_wp2
      go_loopw [3, 5] (fun hv jv wx => ∃ j : Nat, j ≤ 8 ∧ jv = .int .i64 j ∧ hv = u32v (stN j h1) ∧ wx = wr) (fun _ jv _ => 8 - (intOf jv).toNat)
      case atStart => exact ⟨0, by omega, rfl, rfl, rfl⟩
      case round =>
        obtain ⟨j, hj, rfl, rfl, rfl⟩ := hrel
        by_cases hlj : j < 8
        · have hst : Hid (u32v (stN (j + 1) h1) = .int .u32 ((st (stN j h1)).toNat : Int)) := rfl
          generalize stN j h1 = g at *
          unfold u32v
          have ho := odd_bit g
          by_cases hg : g.getLsbD 0 = true
          · rw [hg] at ho
            have hs := st_odd g hg
            clear hg
            go_wp2
            exact ⟨⟨j + 1, by omega, by go_num, hst.out.symm, trivial⟩, by simp [intOf]; omega⟩
          · have hg' : g.getLsbD 0 = false := by simpa using hg
            rw [hg'] at ho
            have hs := st_half g hg'
            clear hg hg'
            go_wp2
            exact ⟨⟨j + 1, by omega, by go_num, (by rw [← hs]; exact hst.out.symm), trivial⟩, by simp [intOf]; omega⟩
        · obtain rfl : j = 8 := by omega
          have hst : Hid (Value.int .u32 ((stN 8 h1).toNat : Int) = u32v (crc ones (l.take (k + 1)))) := by show _ = _; rw [HC.out]; rfl
          generalize stN 8 h1 = g at *
          unfold u32v
          go_wp2
          exact ⟨⟨k + 1, by omega, by go_num, hst.out, trivial⟩, by simp [intOf]; omega⟩
    · obtain rfl : k = l.length := by omega
      rw [List.take_length]
      have hs2 : (sumF l : Int) = 4294967295 - ((crc ones l).toNat : Int) := sum_ones (crc ones l)
      have hd : Hid (Value.int .u32 (4294967295 - ((crc ones l).toNat : Int)) = .int .u32 (sumF l : Int)) := by show _ = _; rw [hs2]
      have hxl := (crc ones l).isLt
      unfold u32v
      clear hs2
      generalize (crc ones l) = x at *
      have hx1 : (x.toNat : Int) ≤ 4294967295 := by omega
      go_wp2
      go_ret
      exact ⟨by rw [← hd.out]; rfl, rfl⟩
theorem Own.of_new {w : World} {t : TypeId} {cs : Array Value} (B : Nat) (hB : w.heap[B]? = some (.cells cs t (0, 0))) (hm : cs.size ≤ maxLen) : Own w t 1 (.slice (some ⟨B, 0, none⟩) cs.size cs.size) cs.size cs.toList :=
  ⟨by simp, .inr ⟨B, cs.size, cs, rfl, hB, Nat.le_refl _, hm, by simp, by rw [Nat.mul_one, List.take_of_length_le (by simp)]⟩⟩

set_option maxRecDepth 100000 in
set_option maxHeartbeats 1000000 in
theorem rframe_any (A : Option Addr) (c : Nat) (b : List UInt8) (w : World) (hr : Rd w (Lt w.heap.size) 1 A b.length (bs b)) (hl : b.length ≤ c) (hc : c ≤ maxLen) :
    Calls Try.prog 33 #[.slice A b.length c] w (RetWrap w [b]) := by
  have HR := Lib.hid hr
  clear hr
  by_cases hok : OkLen b
  · obtain ⟨d1, d2⟩ := hok
    have d1' : ¬ (b.length : Int) < 1 := by omega
    have d2' : ¬ (4096 : Int) < b.length := by omega
    go_enter Try.func33, Try.ntmps33
    go_wp2_with fail
    refine (rsum_any _ A c b w HR.out (by omega)).mono ?_
    rintro e w1 ⟨rfl, rfl⟩
    have hall : AllOk [b] := fun d hd => by simp at hd; subst hd; exact ⟨d1, d2⟩
    have hf1 : Fr No w (w.alloc (.cells #[Value.int .u8 ((b.length : Int) % 256), .int .u8 ((b.length : Int) / 256), .int .u8 ((sumF b : Int) % 256), .int .u8 ((sumF b : Int) / 256 % 256), .int .u8 ((sumF b : Int) / 65536 % 256), .int .u8 ((sumF b : Int) / 16777216 % 256)] 5)) := (Fr.refl _ _).alloc _
    have hsrc : Src Try.prog (w.alloc (.cells #[Value.int .u8 ((b.length : Int) % 256), .int .u8 ((b.length : Int) / 256), .int .u8 ((sumF b : Int) % 256), .int .u8 ((sumF b : Int) / 256 % 256), .int .u8 ((sumF b : Int) / 65536 % 256), .int .u8 ((sumF b : Int) / 16777216 % 256)] 5)) 1 25 (.slice A b.length c) b.length (bs b) := Src.of_rd (HR.out.below hf1.belowNo fun _ h => h) (bs_one b) Try.underlying25
    have hown : Own (w.alloc (.cells #[Value.int .u8 ((b.length : Int) % 256), .int .u8 ((b.length : Int) / 256), .int .u8 ((sumF b : Int) % 256), .int .u8 ((sumF b : Int) / 256 % 256), .int .u8 ((sumF b : Int) / 65536 % 256), .int .u8 ((sumF b : Int) / 16777216 % 256)] 5)) 5 1 (.slice (some ⟨w.heap.size, 0, none⟩) 6 6) 6 (bs (head6 b)) := by
      rw [← head6_cells b d2]
      exact Own.of_new _ (heap_alloc_new _ _) (by simp [maxLen])
    have HALL := Lib.hid hall
    clear hall
    go_wp2_with (at_builtin; refine wpList_app _ rfl (.tmp 39) (.tmp 40) 25 25 rfl elB hown rfl hsrc rfl (by simp only [maxLen]; omega) (by omega) ?_; intro v5 w5 ho5 hf5 hn5)
    go_ret2
    have hv : wrapV [b] = head6 b ++ b := by rw [show wrapV [b] = wrapF [b] from if_pos HALL.out]; simp [wrapF, frm_head]
    have hf0 : Fr No w w5 := hf1.trans' hf5 fun i hi hlt => by simp [AtO, Value.ownBlock] at hi; omega
    refine ⟨v5, by rw [show wrapE [b] = 0 from if_pos HALL.out]; rfl, ?_, hf0, .inr ?_⟩
    · rw [hv, bs_append, List.length_append]
      exact ho5
    · rcases hn5 with h | h
      · exact ⟨w.heap.size, h, Nat.le_refl _⟩
      · exact ⟨_, h, by simp⟩
  · have HND : Hid (¬ AllOk [b]) := fun h => hok (h b (by simp))
    go_enter Try.func33, Try.ntmps33
    by_cases d1 : b.length < 1
    · have d1' : (b.length : Int) < 1 := by omega
      go_wp2
      go_ret2
      exact RetWrap.bad HND.out (Fr.refl _ _)
    · have d1' : ¬ (b.length : Int) < 1 := by omega
      have d2' : (4096 : Int) < b.length := by unfold OkLen at hok; omega
      go_wp2
      go_ret2
      exact RetWrap.bad HND.out (Fr.refl _ _)
def RWrapRel (w : World) (l : List (List UInt8)) (av iv : Value) (wr : World) : Prop :=
  ∃ k : Nat, k ≤ l.length ∧ iv = .int .i64 k ∧ AllOk (l.take k) ∧ Own wr 5 1 av (wrapF (l.take k)).length (bs (wrapF (l.take k))) ∧ Fr No w wr ∧ Newer w.heap.size none av.ownBlock

set_option maxRecDepth 100000 in
set_option maxHeartbeats 1000000 in
theorem rwrap_any (A : Option Addr) (c : Nat) (l : List (List UInt8)) (w : World) (hr : RdL w A l) (hl : l.length ≤ 1000000) :
    Calls Try.prog 35 #[.slice A l.length c] w (RetWrap w l) := by
  have HR := Lib.hid hr
  clear hr
  go_enter Try.func35, Try.ntmps35
  go_wp2
  have hstart : RWrapRel w l (.slice none 0 0) (.int .i64 0) w := ⟨0, Nat.zero_le _, rfl, (fun d hd => by simp at hd), Own.nil _ _ _, Fr.refl _ _, .inl rfl⟩
  go_loopw [4, 5] (fun a i wr => RWrapRel w l a i wr) (fun _ i _ => l.length - (intOf i).toNat)
  case atStart => exact hstart
  case round =>
    clear hstart
    obtain ⟨k, hk, rfl, hok, ho, hf, hn⟩ := hrel
    by_cases hlt : k < l.length
    · obtain ⟨ad, Aj, cj, rfl, hcell, hrd, hlc, hcm⟩ := HR.out.at_ hlt
      replace hcell := (hf.belowNo.cell (p := ad.add k) (World.block_lt_of_cell? w _ hcell)).trans hcell
      have htk : l.take (k + 1) = l.take k ++ [l[k]] := List.take_succ_eq_append_getElem hlt
      have HT := Lib.hid htk
      have HMEM : Hid (l[k] ∈ l) := List.getElem_mem hlt
      have hrd' : Rd wr (Lt wr.heap.size) 1 Aj l[k].length (bs l[k]) := (hrd.below hf.belowNo fun _ h => h).more fun k hk => Nat.lt_of_lt_of_le hk hf.size
      have HFR := Lib.hid (rframe_any Aj cj l[k] wr hrd' hlc hcm)
      clear htk hrd hrd'
      generalize l[k] = d at *
      go_wp2_with fail
      refine HFR.out.mono ?_
      rintro e w2 ⟨v2, rfl, ho2, hf2, hn2⟩
      clear HFR
      by_cases hd : OkLen d
      · have hall : AllOk [d] := fun x hx => by simp at hx; subst hx; exact hd
        rw [show wrapE [d] = 0 from if_pos hall]
        rw [show wrapV [d] = frm d by rw [show wrapV [d] = wrapF [d] from if_pos hall]; simp [wrapF]] at ho2
        have hcat : bs (wrapF (l.take k)) ++ bs (frm d) = bs (wrapF (l.take (k + 1))) := by
          rw [HT.out, ← bs_append]
          simp [wrapF]
        have hlen : (wrapF (l.take k)).length + (frm d).length = (wrapF (l.take (k + 1))).length := by
          have := congrArg List.length hcat
          simp only [List.length_append, bs_length] at this
          exact this
        have hwl : (wrapF (l.take k)).length ≤ k * 4102 := wrapF_le _ k hok (by simp; omega)
        have HOK : Hid (AllOk (l.take (k + 1))) := by
          show AllOk _
          rw [HT.out]
          intro x hx
          rcases List.mem_append.1 hx with h | h
          · exact hok x h
          · simp at h
            subst h
            exact hd
        have hfl := frm_length d
        have hbig : (wrapF (l.take k)).length + (frm d).length ≤ 140737488355328 := by
          have : k * 4102 ≤ 1000000 * 4102 := Nat.mul_le_mul_right _ (by omega)
          have := hd.2
          omega
        have HCAT := Lib.hid hcat
        have HLEN := Lib.hid hlen
        have ho3 : Own w2 5 1 _ _ _ := ho.fr hf2 (fun _ _ h => h)
        have hf3 : Fr No w w2 := hf.trans hf2
        have hsrc := srcOf ho2
        have hs3 := hf3.size
        clear hcat hlen hwl hfl hd hall ho hf hf2 hn2 ho2 hok
        generalize frm d = fd at *
        go_wp2_with (at_builtin; refine wpList_app _ rfl (.tmp 25) (.tmp 26) 25 25 rfl elB ho3 rfl hsrc rfl (by simp only [maxLen]; omega) (by omega) ?_; intro v7 w7 ho7 hf7 hn7)
        have hend : RWrapRel w l v7 (.int .i64 ((k : Int) + 1)) w7 := by
          refine ⟨k + 1, by omega, by go_num, HOK.out, ?_, fr_no hf3 hn hf7, hn.trans (Newer.of hn7) hs3⟩
          rw [HCAT.out, HLEN.out] at ho7
          exact ho7
        go_roundw
        case rel => exact hend
        case measure => simp [intOf]; omega
      · have hall : ¬ AllOk [d] := fun h => hd (h d (by simp))
        rw [show wrapE [d] = 1 from if_neg hall]
        have HND : Hid (¬ AllOk l) := fun h => hd (h d HMEM.out)
        clear hall hd
        go_wp2
        go_ret2
        exact RetWrap.bad HND.out (hf.trans hf2)
    · obtain rfl : k = l.length := by omega
      rw [List.take_length] at hok ho
      have HO := Lib.hid hok
      clear hok
      go_wp2
      go_ret2
      refine ⟨_, by rw [show wrapE l = 0 from if_pos HO.out]; rfl, ?_, hf, hn⟩
      rw [show wrapV l = wrapF l from if_pos HO.out]
      exact ho
end Go.Proofs.Ytjfbpnhkdlbinaa
