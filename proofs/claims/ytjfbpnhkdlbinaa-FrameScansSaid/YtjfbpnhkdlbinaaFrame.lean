/- Contracts of package frame: the table, the sum. -/
import Derived.Test.YtjfbpnhkdlbinaaChecked
import Derived.Test.YtjfbpnhkdlbinaaLib
import Derived.Test.YtjfbpnhkdlbinaaLib2
import Derived.Test.YtjfbpnhkdlbinaaOpen
import Derived.Test.YtjfbpnhkdlbinaaKit
import Derived.Test.YtjfbpnhkdlbinaaCrc
import Derived.RegionCalls
namespace Go.Proofs.Ytjfbpnhkdlbinaa
open Go.RowKit Go.My
set_option linter.unusedSimpArgs false
set_option linter.unusedVariables false

theorem ofInt_nat (a : BitVec 32) : BitVec.ofInt 32 (a.toNat : Int) = a := by rw [BitVec.ofInt_natCast, BitVec.ofNat_toNat, BitVec.setWidth_eq]
theorem wrap32 (a : BitVec 32) : IntKind.u32.wrap (a.toNat : Int) = (a.toNat : Int) := by
  rw [IntKind.wrap_u32]
  have := a.isLt
  omega
theorem xor32 (a b : BitVec 32) : bits .xor .u32 (a.toNat : Int) (b.toNat : Int) = ((a ^^^ b).toNat : Int) := by
  show IntKind.u32.wrap ((BitVec.ofInt 32 (a.toNat : Int) ^^^ BitVec.ofInt 32 (b.toNat : Int)).toNat : Int) = _
  rw [ofInt_nat, ofInt_nat, wrap32]
theorem or32 (a b : BitVec 32) : bits .or .u32 (a.toNat : Int) (b.toNat : Int) = ((a ||| b).toNat : Int) := by
  show IntKind.u32.wrap ((BitVec.ofInt 32 (a.toNat : Int) ||| BitVec.ofInt 32 (b.toNat : Int)).toNat : Int) = _
  rw [ofInt_nat, ofInt_nat, wrap32]
theorem and32 (a b : BitVec 32) : bits .and .u32 (a.toNat : Int) (b.toNat : Int) = ((a &&& b).toNat : Int) := by
  show IntKind.u32.wrap ((BitVec.ofInt 32 (a.toNat : Int) &&& BitVec.ofInt 32 (b.toNat : Int)).toNat : Int) = _
  rw [ofInt_nat, ofInt_nat, wrap32]
theorem shr32 (a : BitVec 32) (k : Nat) : ((a >>> k).toNat : Int) = (a.toNat : Int) / ((2 ^ k : Nat) : Int) := by
  rw [BitVec.toNat_ushiftRight, Nat.shiftRight_eq_div_pow]
  exact Int.natCast_ediv _ _
theorem and_one32 (h : BitVec 32) : (h &&& 1#32) = if h.getLsbD 0 then 1#32 else 0#32 := by
  ext i hi
  have h1 : ∀ j (hj : j < 32), (1#32)[j] = decide (j = 0) := by decide
  rw [BitVec.getElem_and, h1 i hi]
  rcases Nat.eq_zero_or_pos i with rfl | hp
  · rw [BitVec.getLsbD_eq_getElem (by omega)]
    cases h[0] <;> simp
  · have : ¬ i = 0 := by omega
    cases h.getLsbD 0 <;> simp [this]
theorem st_bits (h : BitVec 32) : bits .xor .u32 ((h.toNat : Int) / 2) (3988292384 * bits .and .u32 (h.toNat : Int) 1 % 4294967296) = ((st h).toNat : Int) := by
  have e1 : (h.toNat : Int) / (2 : Int) = ((h >>> 1).toNat : Int) := by have := (shr32 h 1).symm; exact this
  have e1' : ∀ a b : Int, bits .xor .u32 ((h.toNat : Int) / 2) b = bits .xor .u32 ((h >>> 1).toNat : Int) b := fun _ b => by
    have : ((h.toNat : Int) / 2) = ((h >>> 1).toNat : Int) := e1
    exact congrArg (fun x => bits .xor .u32 x b) this
  have e2 : bits .and .u32 (h.toNat : Int) 1 = ((if h.getLsbD 0 then 1#32 else 0#32 : BitVec 32).toNat : Int) := by
    rw [← and_one32]
    exact and32 h 1#32
  have e3 : (3988292384 * ((if h.getLsbD 0 then 1#32 else 0#32 : BitVec 32).toNat : Int)) % 4294967296 = ((if h.getLsbD 0 then poly else 0#32 : BitVec 32).toNat : Int) := by
    cases h.getLsbD 0 <;> rfl
  rw [e1' 0, e2, e3, xor32]
  rfl

def u32v (h : BitVec 32) : Value := .int .u32 (h.toNat : Int)
def tabRow (i : Nat) : Array Value := Array.ofFn fun j : Fin 16 => if j.1 < i then u32v (st4 (BitVec.ofNat 32 j.1)) else .int .u32 0
def tv (j : Nat) : Value := .int .u32 ((st4 (BitVec.ofNat 32 j)).toNat : Int)
theorem tabRow16 : tabRow 16 = #[tv 0, tv 1, tv 2, tv 3, tv 4, tv 5, tv 6, tv 7, tv 8, tv 9, tv 10, tv 11, tv 12, tv 13, tv 14, tv 15] := by
  rfl
theorem tabRow0 : tabRow 0 = #[.int .u32 0, .int .u32 0, .int .u32 0, .int .u32 0, .int .u32 0, .int .u32 0, .int .u32 0, .int .u32 0, .int .u32 0, .int .u32 0, .int .u32 0, .int .u32 0, .int .u32 0, .int .u32 0, .int .u32 0, .int .u32 0] := by
  rfl
theorem tabRow_size (k : Nat) : (tabRow k).size = 16 := by simp [tabRow]
theorem tabRow_get (k i : Nat) : (tabRow k)[i]? = if i < 16 then some (if i < k then u32v (st4 (BitVec.ofNat 32 i)) else .int .u32 0) else none := by
  unfold tabRow
  rw [Array.getElem?_ofFn]
  by_cases h : i < 16
  · rw [dif_pos h, if_pos h]
  · rw [dif_neg h, if_neg h]
theorem tabRow_succ (k : Nat) (h : k < 16) (v : Value) (hv : v = u32v (st4 (BitVec.ofNat 32 k))) : (tabRow k).setIfInBounds k v = tabRow (k + 1) := by
  subst hv
  apply Array.ext_getElem?
  intro i
  rw [Array.getElem?_setIfInBounds, tabRow_get, tabRow_get, tabRow_size]
  by_cases hik : k = i
  · subst hik
    rw [if_pos rfl, if_pos h, if_pos h, if_pos (by omega)]
  · rw [if_neg hik]
    by_cases hi : i < 16
    · rw [if_pos hi, if_pos hi]
      by_cases hl : i < k
      · rw [if_pos hl, if_pos (by omega)]
      · rw [if_neg hl, if_neg (by omega)]
    · rw [if_neg hi, if_neg hi]
def stN : Nat → BitVec 32 → BitVec 32
  | 0, h => h
  | n + 1, h => st (stN n h)

def PartRel (w : World) (i : Value) (wr : World) : Prop :=
  ∃ k : Nat, k ≤ 16 ∧ i = .int .i64 k ∧ Blk wr (w.heap.size + 1) 86 (tabRow k) ∧ Blk wr w.heap.size 86 (tabRow 0) ∧ Below w.heap.size w wr

set_option maxHeartbeats 400000 in
theorem partials_any (w : World) : Calls Try.prog 60 #[] w (fun e w' => e = .returned (.agg (tabRow 16)) ∧ Below w.heap.size w w') := by
  go_enter Try.func60, Try.ntmps60
  go_wp2
  have hstart : PartRel w (.int .i64 0) ((w.alloc (.cells (tabRow 0) 86)).alloc (.cells (tabRow 0) 86)) := by
    refine ⟨0, by omega, rfl, ?_, ?_, ?_⟩
    · have := Blk.new (w.alloc (.cells (tabRow 0) 86)) 86 (tabRow 0)
      simpa using this
    · exact (Blk.new _ _ _).alloc _
    · exact ((Below.refl _ _).alloc (Nat.le_refl _) _).alloc (by simp) _
  go_loopw [4] (fun a wr => PartRel w a wr) (fun a _ => 16 - (intOf a).toNat)
  case atStart => exact hstart
  case round =>
    clear hstart
    obtain ⟨k, hk, rfl, hb1, hb0, hbw⟩ := hrel
    by_cases hlt : k < 16
    · go_wp2
      go_loopw [9, 3] (fun a h wx => ∃ j : Nat, j ≤ 4 ∧ a = .int .i64 j ∧ h = u32v (stN j (BitVec.ofNat 32 k)) ∧ wx = wr) (fun a _ _ => 4 - (intOf a).toNat)
      case atStart => exact ⟨0, by omega, rfl, by simp [u32v, stN]; omega, rfl⟩
      case round =>
        obtain ⟨j, hj, rfl, rfl, rfl⟩ := hrel
        by_cases hlj : j < 4
        · unfold u32v
          have hst : Hid (∀ h, stN j (BitVec.ofNat 32 k) = h → u32v (stN (j + 1) (BitVec.ofNat 32 k)) = .int .u32 ((st h).toNat : Int)) := by rintro h rfl; rfl
          generalize hh : stN j (BitVec.ofNat 32 k) = h
          have hst' := Lib.hid (hst.out h hh)
          clear hh hst
          have hsb := Lib.hid (st_bits h)
          go_wp2
          refine ⟨⟨j + 1, by omega, by go_num, ?_, trivial⟩, by simp [intOf]; omega⟩
          rw [hsb.out]
          exact hst'.out.symm
        · have hj4 : j = 4 := by omega
          subst hj4
          have c0 := hb1.cell k
          rw [show (tabRow k)[k]? = some (Value.int .u32 0) by rw [tabRow, Array.getElem?_ofFn, dif_pos hlt]; simp] at c0
          have f0 := hb1.frozen k
          unfold u32v
          have hfin : PartRel w (.int .i64 ((k : Int) + 1)) (wr.setCell ⟨w.heap.size + 1, k, none⟩ (.int .u32 ((stN 4 (BitVec.ofNat 32 k)).toNat : Int))) := by
            refine ⟨k + 1, by omega, by go_num, ?_, hb0.far (by simp) _, hbw.setCell (by simp) _⟩
            have := hb1.set_ k (.int .u32 ((stN 4 (BitVec.ofNat 32 k)).toNat : Int))
            rwa [tabRow_succ k hlt (.int .u32 ((stN 4 (BitVec.ofNat 32 k)).toNat : Int)) rfl] at this
          have HF := Lib.hid hfin
          clear hfin hb1 hb0
          go_wp2
          go_roundw
          case rel => exact HF.out
          case measure => simp [intOf]; omega
    · have hk16 : k = 16 := by omega
      subst hk16
      have hb1' := hb1
      rw [tabRow16] at hb1
      have c0 := hb1.cell 0
      have c1 := hb1.cell 1
      have c2 := hb1.cell 2
      have c3 := hb1.cell 3
      have c4 := hb1.cell 4
      have c5 := hb1.cell 5
      have c6 := hb1.cell 6
      have c7 := hb1.cell 7
      have c8 := hb1.cell 8
      have c9 := hb1.cell 9
      have c10 := hb1.cell 10
      have c11 := hb1.cell 11
      have c12 := hb1.cell 12
      have c13 := hb1.cell 13
      have c14 := hb1.cell 14
      have c15 := hb1.cell 15
      simp at c0 c1 c2 c3 c4 c5 c6 c7 c8 c9 c10 c11 c12 c13 c14 c15
      unfold tv at c0 c1 c2 c3 c4 c5 c6 c7 c8 c9 c10 c11 c12 c13 c14 c15
      rw [tabRow0] at hb0
      have d0 := hb0.cell 0
      have f0 := hb0.frozen 0
      have d1 := hb0.cell 1
      have f1 := hb0.frozen 1
      have d2 := hb0.cell 2
      have f2 := hb0.frozen 2
      have d3 := hb0.cell 3
      have f3 := hb0.frozen 3
      have d4 := hb0.cell 4
      have f4 := hb0.frozen 4
      have d5 := hb0.cell 5
      have f5 := hb0.frozen 5
      have d6 := hb0.cell 6
      have f6 := hb0.frozen 6
      have d7 := hb0.cell 7
      have f7 := hb0.frozen 7
      have d8 := hb0.cell 8
      have f8 := hb0.frozen 8
      have d9 := hb0.cell 9
      have f9 := hb0.frozen 9
      have d10 := hb0.cell 10
      have f10 := hb0.frozen 10
      have d11 := hb0.cell 11
      have f11 := hb0.frozen 11
      have d12 := hb0.cell 12
      have f12 := hb0.frozen 12
      have d13 := hb0.cell 13
      have f13 := hb0.frozen 13
      have d14 := hb0.cell 14
      have f14 := hb0.frozen 14
      have d15 := hb0.cell 15
      have f15 := hb0.frozen 15
      simp at d0 d1 d2 d3 d4 d5 d6 d7 d8 d9 d10 d11 d12 d13 d14 d15
      clear hb1 hb0 hb1'
      have HBS : Hid (∀ (i : Nat) (v : Value) (W : World), Below w.heap.size w W → Below w.heap.size w (W.setCell ⟨w.heap.size, i, none⟩ v)) := fun i v W h => h.setCell (Nat.le_refl _) v
      go_wp2
      refine bodyPost_ret (v := .agg #[tv 0, tv 1, tv 2, tv 3, tv 4, tv 5, tv 6, tv 7, tv 8, tv 9, tv 10, tv 11, tv 12, tv 13, tv 14, tv 15]) (by simp [results, Try.results60, go_sem, tv, d0, d1, d2, d3, d4, d5, d6, d7, d8, d9, d10, d11, d12, d13, d14, d15]) rfl ?_
      refine ⟨by rw [tabRow16], ?_⟩
      iterate 16 apply HBS.out
      exact hbw

theorem sum_ones (x : BitVec 32) : ((ones ^^^ x).toNat : Int) = 4294967295 - (x.toNat : Int) := by
  have e : ones = BitVec.allOnes 32 := by decide
  have hx := x.isLt
  rw [e, BitVec.allOnes_xor, BitVec.toNat_not]
  omega
theorem nib_bits (h : BitVec 32) : bits .xor .u32 ((h.toNat : Int) / 16) ((st4 (h &&& 15#32)).toNat : Int) = ((st4 h).toNat : Int) := by
  have e1 : (h.toNat : Int) / 16 = ((h >>> 4).toNat : Int) := by have := (shr32 h 4).symm; exact this
  have e2 : bits .xor .u32 ((h.toNat : Int) / 16) ((st4 (h &&& 15#32)).toNat : Int) = bits .xor .u32 ((h >>> 4).toNat : Int) ((st4 (h &&& 15#32)).toNat : Int) := congrArg (fun x => bits .xor .u32 x _) e1
  rw [e2, xor32, ← st4_nib]
theorem byte_bits (h : BitVec 32) (c : UInt8) : bits .xor .u32 (h.toNat : Int) (c.toNat : Int) = ((h ^^^ b32 c).toNat : Int) := by
  have e : (c.toNat : Int) = ((b32 c).toNat : Int) := by
    have := c.toNat_lt
    unfold b32
    rw [BitVec.toNat_ofNat, Nat.mod_eq_of_lt (by omega)]
  rw [e, xor32]
theorem nib_idx (h : BitVec 32) : (h &&& 15#32) = BitVec.ofNat 32 (h.toNat % 16) := by
  apply BitVec.eq_of_toNat_eq
  have h1 : h.toNat % 16 < 16 := Nat.mod_lt _ (by omega)
  rw [BitVec.toNat_ofNat, Nat.mod_eq_of_lt (by omega), BitVec.toNat_and]
  exact Nat.and_two_pow_sub_one_eq_mod h.toNat 4
/-- the table's entry for a half byte -/
theorem tab_at {w : World} {g : Nat} {t : TypeId} (hb : Blk w g t (tabRow 16)) (h : BitVec 32) : w.cell? ⟨g, h.toNat % 16, none⟩ = some (.int .u32 ((st4 (h &&& 15#32)).toNat : Int)) := by
  have h1 : h.toNat % 16 < 16 := Nat.mod_lt _ (by omega)
  rw [hb.cell, tabRow_get, if_pos h1, if_pos h1, nib_idx]
  rfl

def SumRel (w : World) (l : List UInt8) (hv iv : Value) (wr : World) : Prop :=
  ∃ k : Nat, k ≤ l.length ∧ iv = .int .i64 k ∧ hv = u32v (crc ones (l.take k)) ∧ Below w.heap.size w wr

set_option maxHeartbeats 400000 in
theorem sum_any (F : Nat → Prop) (A : Option Addr) (c : Nat) (l : List UInt8) (w : World) (hr : Rd w F 1 A l.length (bs l)) (hl : l.length ≤ 9223372036854775807) :
    Calls Try.prog 61 #[.agg (tabRow 16), .slice A l.length c] w (fun e w' => e = .returned (.int .u32 (sumF l : Int)) ∧ Below w.heap.size w w') := by
  obtain ⟨W1, hW1⟩ : ∃ W1, W1 = w.alloc (.cells (tabRow 16) 86) := ⟨_, rfl⟩
  have hbox : Blk W1 w.heap.size 86 (tabRow 16) := by rw [hW1]; exact Blk.new _ _ _
  have hbw1 : Below w.heap.size w W1 := by rw [hW1]; exact (Below.refl _ _).alloc (Nat.le_refl _) _
  have hr1 : Rd W1 (Lt w.heap.size) 1 A l.length (bs l) := (rd_lt hr (by omega)).below hbw1 fun _ h => h
  have HW := Lib.hid hW1
  rw [tabRow16] at HW
  clear hW1 hr
  have HBX := Lib.hid hbox
  have HR := Lib.hid hr1
  rw [tabRow16]
  clear hbox hr1
  go_enter Try.func61, Try.ntmps61
  go_wp2
  rw [← HW.out]
  go_loopw [10, 5] (fun i h wr => ∃ k : Nat, k ≤ l.length ∧ i = .int .i64 k ∧ h = u32v (crc ones (l.take k)) ∧ wr = W1) (fun i _ _ => l.length - (intOf i).toNat)
  case atStart => exact ⟨0, Nat.zero_le _, rfl, rfl, rfl⟩
  case round =>
    obtain ⟨k, hk, rfl, rfl, rfl⟩ := hrel
    by_cases hlt : k < l.length
    · obtain ⟨ad, u, rfl, _, hx, hc⟩ := HR.out.at_ hlt
      rw [bs_get l k hlt] at hx
      injection hx with hx
      subst hx
      have htk : l.take (k + 1) = l.take k ++ [l[k]] := List.take_succ_eq_append_getElem hlt
      have hcr : crc ones (l.take (k + 1)) = upd (crc ones (l.take k)) l[k] := by rw [htk, crc_append]; rfl
      have HC := Lib.hid hcr
      clear htk hcr
      generalize l[k] = b at *
      generalize crc ones (l.take k) = h at *
      unfold u32v
      have hb32 : (b.toNat : Int) % 4294967296 = b.toNat := by have := b.toNat_lt; omega
      have E1 := byte_bits h b
      rw [← hb32] at E1
      have C1 := tab_at HBX.out (h ^^^ b32 b)
      have E2 := nib_bits (h ^^^ b32 b)
      have C2 := tab_at HBX.out (st4 (h ^^^ b32 b))
      have E3 := nib_bits (st4 (h ^^^ b32 b))
      have hupd : Hid (st4 (st4 (h ^^^ b32 b)) = upd h b) := rfl
      generalize (h ^^^ b32 b) = h1 at *
      have hfin : Hid (∀ x : Int, x = ((st4 (st4 h1)).toNat : Int) → Value.int .u32 x = u32v (crc ones (l.take (k + 1)))) := by
        rintro x rfl
        rw [HC.out, ← hupd.out]
        rfl
      have T1 : (h1.toNat : Int).tmod 16 = ((h1.toNat % 16 : Nat) : Int) := by rw [Int.tmod_eq_emod_of_nonneg (by omega)]; rfl
      have T2 : ((st4 h1).toNat : Int).tmod 16 = (((st4 h1).toNat % 16 : Nat) : Int) := by rw [Int.tmod_eq_emod_of_nonneg (by omega)]; rfl
      have L1 : h1.toNat % 16 < 16 := Nat.mod_lt _ (by omega)
      have L2 : (st4 h1).toNat % 16 < 16 := Nat.mod_lt _ (by omega)
      generalize h1.toNat % 16 = m1 at *
      generalize (st4 h1).toNat % 16 = m2 at *
      clear hb32 HC
      go_wp2
      exact ⟨⟨k + 1, by omega, by go_num, hfin.out _ rfl, trivial⟩, by simp [intOf]; omega⟩
    · obtain rfl : k = l.length := by omega
      rw [List.take_length]
      have hs := sum_ones (crc ones l)
      have hs2 : (sumF l : Int) = 4294967295 - ((crc ones l).toNat : Int) := hs
      have hd : Hid (Value.int .u32 (4294967295 - ((crc ones l).toNat : Int)) = .int .u32 (sumF l : Int)) := by show _ = _; rw [hs2]
      have hxl := (crc ones l).isLt
      unfold u32v
      clear hs hs2
      generalize (crc ones l) = x at *
      have hx1 : (x.toNat : Int) ≤ 4294967295 := by omega
      go_wp2
      go_ret
      exact ⟨by rw [← hd.out]; rfl, by rw [HW.out]; exact (Below.refl _ _).alloc (Nat.le_refl _) _⟩

/-- the table, once more, and the sum -/
theorem sumf_any (F : Nat → Prop) (A : Option Addr) (c : Nat) (l : List UInt8) (w : World) (hr : Rd w F 1 A l.length (bs l)) (hl : l.length ≤ 9223372036854775807) :
    Calls Try.prog 36 #[.slice A l.length c] w (fun e w' => e = .returned (.int .u32 (sumF l : Int)) ∧ Below w.heap.size w w') := by
  have hr1 := rd_lt hr (by omega)
  have HR := Lib.hid hr1
  clear hr hr1
  have ht := tabRow16
  generalize tabRow 16 = T at ht
  go_enter Try.func36, Try.ntmps36
  go_wp2_with fail
  refine (partials_any _).mono ?_
  rintro e w1 ⟨rfl, hb1⟩
  rw [tabRow16]
  go_wp2_with fail
  rw [← tabRow16]
  refine (sum_any _ A c l w1 (HR.out.below hb1 fun _ h => h) hl).mono ?_
  rintro e w2 ⟨rfl, hb2⟩
  go_wp2
  go_ret
  exact ⟨rfl, hb1.trans (hb2.mono hb1.size)⟩
end Go.Proofs.Ytjfbpnhkdlbinaa
