/- The checksum of package frame as a function of lists: of no program. -/
import Derived.WalkKit
namespace Go.My
set_option linter.unusedSimpArgs false
set_option linter.unusedVariables false

def poly : BitVec 32 := 0xEDB88320#32
/-- one bit -/
def st (h : BitVec 32) : BitVec 32 := (h >>> 1) ^^^ (if h.getLsbD 0 then poly else 0#32)
def st4 (h : BitVec 32) : BitVec 32 := st (st (st (st h)))
def st8 (h : BitVec 32) : BitVec 32 := st4 (st4 h)

theorem ite_xor (p q : Bool) (x : BitVec 32) : (if (p ^^ q) then x else 0#32) = (if p then x else 0#32) ^^^ (if q then x else 0#32) := by
  cases p <;> cases q <;> simp
theorem st_xor (a b : BitVec 32) : st (a ^^^ b) = st a ^^^ st b := by
  unfold st
  rw [BitVec.getLsbD_xor, ite_xor, BitVec.ushiftRight_xor_distrib]
  ac_rfl
theorem st_zero : st 0#32 = 0#32 := by decide
theorem st4_xor (a b : BitVec 32) : st4 (a ^^^ b) = st4 a ^^^ st4 b := by simp only [st4, st_xor]
theorem st8_xor (a b : BitVec 32) : st8 (a ^^^ b) = st8 a ^^^ st8 b := by simp only [st8, st4_xor]
theorem st_ker (a : BitVec 32) (h : st a = 0#32) : a = 0#32 := by
  have h31 : (st a).getLsbD 31 = false := by rw [h]; simp
  have hb : (st a).getLsbD 31 = a.getLsbD 0 := by
    unfold st
    rw [BitVec.getLsbD_xor, BitVec.getLsbD_ushiftRight]
    have e : a.getLsbD (1 + 31) = false := by simp
    rw [e, Bool.false_xor]
    cases a.getLsbD 0
    · simp
    · decide
  rw [hb] at h31
  unfold st at h
  rw [h31] at h
  simp only [Bool.false_eq_true, if_false, BitVec.xor_zero] at h
  ext i hi
  rcases Nat.eq_zero_or_pos i with rfl | hp
  · rw [BitVec.getLsbD_eq_getElem (by omega)] at h31
    simpa using h31
  · have := congrArg (fun v => v.getLsbD (i - 1)) h
    simp only [BitVec.getLsbD_ushiftRight] at this
    have e : 1 + (i - 1) = i := by omega
    rw [e] at this
    simpa [BitVec.getLsbD_eq_getElem hi] using this
theorem xor_eq_zero {a b : BitVec 32} (h : a ^^^ b = 0#32) : a = b := by
  have : a ^^^ b ^^^ b = 0#32 ^^^ b := by rw [h]
  rwa [BitVec.xor_assoc, BitVec.xor_self, BitVec.xor_zero, BitVec.zero_xor] at this
theorem st_inj {a b : BitVec 32} (h : st a = st b) : a = b := xor_eq_zero (st_ker _ (by rw [st_xor, h, BitVec.xor_self]))
theorem st8_inj {a b : BitVec 32} (h : st8 a = st8 b) : a = b := by
  unfold st8 st4 at h
  exact st_inj (st_inj (st_inj (st_inj (st_inj (st_inj (st_inj (st_inj h)))))))

/-- a byte, as the lowest of four -/
def b32 (c : UInt8) : BitVec 32 := BitVec.ofNat 32 c.toNat
theorem b32_inj {a b : UInt8} (h : b32 a = b32 b) : a = b := by
  unfold b32 at h
  have := congrArg BitVec.toNat h
  simp only [BitVec.toNat_ofNat] at this
  have ha := a.toNat_lt
  have hb := b.toNat_lt
  rw [Nat.mod_eq_of_lt (by omega), Nat.mod_eq_of_lt (by omega)] at this
  exact UInt8.toNat_inj.1 this
def upd (h : BitVec 32) (c : UInt8) : BitVec 32 := st8 (h ^^^ b32 c)
def crc (h : BitVec 32) (l : List UInt8) : BitVec 32 := l.foldl upd h
def ones : BitVec 32 := 0xFFFFFFFF#32
/-- the sum -/
def sumF (l : List UInt8) : Nat := (ones ^^^ crc ones l).toNat

theorem crc_append (h : BitVec 32) (a b : List UInt8) : crc h (a ++ b) = crc (crc h a) b := by simp [crc]
theorem upd_inj {a b : BitVec 32} {c : UInt8} (h : upd a c = upd b c) : a = b := by
  have := st8_inj h
  have h2 : a ^^^ b32 c ^^^ b32 c = b ^^^ b32 c ^^^ b32 c := by rw [this]
  rwa [BitVec.xor_assoc, BitVec.xor_self, BitVec.xor_zero, BitVec.xor_assoc, BitVec.xor_self, BitVec.xor_zero] at h2
theorem crc_inj (l : List UInt8) : ∀ {a b : BitVec 32}, crc a l = crc b l → a = b := by
  induction l with
  | nil => intro a b h; exact h
  | cons c l ih => intro a b h; exact upd_inj (ih h)
/-- one byte that is another one changes the sum -/
theorem crc_set (l : List UInt8) (h : BitVec 32) (k : Nat) (hk : k < l.length) (c : UInt8) : crc h (l.set k c) = crc h l ↔ c = l[k] := by
  constructor
  · intro he
    have e1 : l.set k c = l.take k ++ c :: l.drop (k + 1) := by rw [List.set_eq_take_append_cons_drop, if_pos hk]
    have e2 : l = l.take k ++ l[k] :: l.drop (k + 1) := by rw [← List.drop_eq_getElem_cons hk, List.take_append_drop]
    rw [e1] at he
    rw [show crc h l = crc h (l.take k ++ l[k] :: l.drop (k + 1)) by rw [← e2]] at he
    rw [crc_append, crc_append] at he
    have h1 : upd (crc h (l.take k)) c = upd (crc h (l.take k)) l[k] := crc_inj (l.drop (k + 1)) he
    have h2 := st8_inj h1
    have h3 : crc h (l.take k) ^^^ (crc h (l.take k) ^^^ b32 c) = crc h (l.take k) ^^^ (crc h (l.take k) ^^^ b32 l[k]) := by rw [h2]
    rw [← BitVec.xor_assoc, ← BitVec.xor_assoc, BitVec.xor_self, BitVec.zero_xor, BitVec.zero_xor] at h3
    exact b32_inj h3
  · rintro rfl
    rw [List.set_getElem_self]
theorem sumF_eq {a b : List UInt8} : sumF a = sumF b ↔ crc ones a = crc ones b := by
  unfold sumF
  constructor
  · intro h
    have h1 := BitVec.eq_of_toNat_eq h
    have h3 : ones ^^^ (ones ^^^ crc ones a) = ones ^^^ (ones ^^^ crc ones b) := by rw [h1]
    rwa [← BitVec.xor_assoc, ← BitVec.xor_assoc, BitVec.xor_self, BitVec.zero_xor, BitVec.zero_xor] at h3
  · intro h; rw [h]
theorem sumF_lt (l : List UInt8) : sumF l < 4294967296 := (ones ^^^ crc ones l).isLt

/-! four bits at once -/
/-- the lowest four bits shift out: what is above only moves -/
theorem st_even (h : BitVec 32) (h0 : h.getLsbD 0 = false) : st h = h >>> 1 := by
  unfold st
  rw [h0]
  simp
theorem st4_high (h : BitVec 32) (h0 : ∀ i < 4, h.getLsbD i = false) : st4 h = h >>> 4 := by
  have e1 := st_even h (h0 0 (by omega))
  have e2 : st (h >>> 1) = h >>> 2 := by
    rw [st_even _ (by rw [BitVec.getLsbD_ushiftRight]; exact h0 1 (by omega)), ← BitVec.shiftRight_add]
  have e3 : st (h >>> 2) = h >>> 3 := by
    rw [st_even _ (by rw [BitVec.getLsbD_ushiftRight]; exact h0 2 (by omega)), ← BitVec.shiftRight_add]
  have e4 : st (h >>> 3) = h >>> 4 := by
    rw [st_even _ (by rw [BitVec.getLsbD_ushiftRight]; exact h0 3 (by omega)), ← BitVec.shiftRight_add]
  unfold st4
  rw [e1, e2, e3, e4]
/-- by the table of half bytes -/
theorem st4_nib (h : BitVec 32) : st4 h = (h >>> 4) ^^^ st4 (h &&& 15#32) := by
  have e : h = (h &&& ~~~15#32) ^^^ (h &&& 15#32) := by
    ext i hi
    simp only [BitVec.getElem_xor, BitVec.getElem_and, BitVec.getElem_not]
    cases h[i] <;> cases (15#32)[i] <;> rfl
  conv => lhs; rw [e]
  rw [st4_xor, st4_high]
  · congr 1
    ext i hi
    simp only [BitVec.getElem_ushiftRight, BitVec.getLsbD_and]
    by_cases hh : 4 + i < 32
    · have : ∀ j < 32, 4 ≤ j → (~~~15#32).getLsbD j = true := by decide
      rw [this _ hh (by omega), Bool.and_true]
    · rw [BitVec.getLsbD_of_ge h _ (by omega), Bool.false_and]
  · intro i hi
    rw [BitVec.getLsbD_and]
    have : ∀ j < 4, (~~~15#32).getLsbD j = false := by decide
    rw [this i hi, Bool.and_false]

/-! the sum behind its bytes -/
theorem st8_high (c : UInt8) (k : Nat) (hk : 8 ≤ k) (hk2 : k ≤ 24) : st8 (b32 c <<< k) = b32 c <<< (k - 8) := by
  have hb : ∀ i, 8 ≤ i → (b32 c).getLsbD i = false := by
    intro i hi
    unfold b32
    rw [BitVec.getLsbD_ofNat]
    have : c.toNat < 2 ^ i := by
      have h1 := c.toNat_lt
      have h2 : 2 ^ 8 ≤ 2 ^ i := Nat.pow_le_pow_right (by omega) hi
      omega
    rw [Nat.testBit_lt_two_pow this, Bool.and_false]
  unfold st8
  have e1 : st4 (b32 c <<< k) = b32 c <<< k >>> 4 := st4_high _ (fun i hi => by rw [BitVec.getLsbD_shiftLeft]; simp; omega)
  have e2 : st4 (b32 c <<< k >>> 4) = b32 c <<< k >>> 8 := by
    rw [st4_high _ (fun i hi => by rw [BitVec.getLsbD_ushiftRight, BitVec.getLsbD_shiftLeft]; simp; omega), ← BitVec.shiftRight_add]
  rw [e1, e2]
  ext i hi
  simp only [BitVec.getElem_ushiftRight, BitVec.getElem_shiftLeft, BitVec.getLsbD_shiftLeft]
  by_cases h1 : 8 + i < 32
  · by_cases h2 : i < k - 8
    · have h3 : 8 + i < k := by omega
      simp [h1, h2, h3]
    · have h3 : ¬ 8 + i < k := by omega
      have h4 : 8 + i - k = i - (k - 8) := by omega
      simp [h1, h2, h3, h4]
      rw [← BitVec.getLsbD_eq_getElem]
  · have h2 : ¬ i < k - 8 := by omega
    simp [h1, h2]
    rw [← BitVec.getLsbD_eq_getElem, hb _ (by omega)]
/-- four bytes, the lowest first -/
def le4 (v : BitVec 32) : List UInt8 := [UInt8.ofNat (v.toNat % 256), UInt8.ofNat (v.toNat / 256 % 256), UInt8.ofNat (v.toNat / 65536 % 256), UInt8.ofNat (v.toNat / 16777216)]
theorem crc4 (h : BitVec 32) (c0 c1 c2 c3 : UInt8) : crc h [c0, c1, c2, c3] = st8 (st8 (st8 (st8 (h ^^^ (b32 c0 ^^^ (b32 c1 <<< 8) ^^^ (b32 c2 <<< 16) ^^^ (b32 c3 <<< 24)))))) := by
  have e : ∀ x : BitVec 32, x <<< 0 = x := by intro x; simp
  simp only [crc, List.foldl_cons, List.foldl_nil, upd, st8_xor]
  rw [st8_high c1 8 (by omega) (by omega), st8_high c2 16 (by omega) (by omega), st8_high c3 24 (by omega) (by omega), e]
  rw [st8_high c2 8 (by omega) (by omega), st8_high c3 16 (by omega) (by omega), e]
  rw [st8_high c3 8 (by omega) (by omega), e]
  ac_rfl
theorem b32_byte (v : BitVec 32) (k : Nat) : b32 (UInt8.ofNat (v.toNat / 2 ^ k % 256)) = (v >>> k) &&& 255#32 := by
  apply BitVec.eq_of_toNat_eq
  have h1 : (v.toNat / 2 ^ k % 256) < 256 := Nat.mod_lt _ (by omega)
  have h2 : (UInt8.ofNat (v.toNat / 2 ^ k % 256)).toNat = v.toNat / 2 ^ k % 256 := by simp
  unfold b32
  rw [BitVec.toNat_ofNat, h2, Nat.mod_eq_of_lt (by omega), BitVec.toNat_and, BitVec.toNat_ushiftRight, Nat.shiftRight_eq_div_pow]
  exact (Nat.and_two_pow_sub_one_eq_mod (v.toNat / 2 ^ k) 8).symm
theorem le4_val (v : BitVec 32) : b32 (UInt8.ofNat (v.toNat % 256)) ^^^ (b32 (UInt8.ofNat (v.toNat / 256 % 256)) <<< 8) ^^^ (b32 (UInt8.ofNat (v.toNat / 65536 % 256)) <<< 16) ^^^ (b32 (UInt8.ofNat (v.toNat / 16777216)) <<< 24) = v := by
  have e0 : b32 (UInt8.ofNat (v.toNat % 256)) = (v >>> 0) &&& 255#32 := by have := b32_byte v 0; rwa [Nat.pow_zero, Nat.div_one] at this
  have e3 : b32 (UInt8.ofNat (v.toNat / 16777216)) = (v >>> 24) &&& 255#32 := by
    have h := b32_byte v 24
    have hv := v.isLt
    have e : v.toNat / 2 ^ 24 % 256 = v.toNat / 16777216 := by omega
    rwa [e] at h
  have e1 := b32_byte v 8
  have e2 := b32_byte v 16
  rw [show (2 : Nat) ^ 8 = 256 by decide] at e1
  rw [show (2 : Nat) ^ 16 = 65536 by decide] at e2
  rw [e0, e1, e2, e3]
  have h255' : ∀ j < 32, (255#32).getLsbD j = decide (j < 8) := by decide
  have h255 : ∀ j (hj : j < 32), (255#32)[j] = decide (j < 8) := fun j hj => by rw [← BitVec.getLsbD_eq_getElem hj]; exact h255' j hj
  ext i hi
  simp only [BitVec.getElem_xor, BitVec.getElem_and, BitVec.getElem_shiftLeft, BitVec.getElem_ushiftRight, BitVec.getLsbD_and, BitVec.getLsbD_ushiftRight]
  rw [h255 i hi]
  have hv := BitVec.getLsbD_eq_getElem (x := v) hi
  by_cases a1 : i < 8
  · have a2 : i < 16 := by omega
    have a3 : i < 24 := by omega
    simp [a1, a2, a3, hv]
  · rw [h255 (i - 8) (by omega)]
    by_cases a2 : i < 16
    · have a3 : i < 24 := by omega
      have a4 : i - 8 < 8 := by omega
      have a5 : 8 + (i - 8) = i := by omega
      simp [a1, a2, a3, a4, a5, hv]
    · rw [h255 (i - 16) (by omega)]
      have a6 : ¬ i - 8 < 8 := by omega
      by_cases a3 : i < 24
      · have a4 : i - 16 < 8 := by omega
        have a5 : 16 + (i - 16) = i := by omega
        simp [a1, a2, a3, a4, a5, a6, hv]
      · rw [h255 (i - 24) (by omega)]
        have a7 : ¬ i - 16 < 8 := by omega
        have a4 : i - 24 < 8 := by omega
        have a5 : 24 + (i - 24) = i := by omega
        simp [a1, a2, a3, a4, a5, a6, a7, hv]
theorem residue (l : List UInt8) : sumF (l ++ le4 (ones ^^^ crc ones l)) = 558161692 := by
  have h : crc ones (l ++ le4 (ones ^^^ crc ones l)) = st8 (st8 (st8 (st8 ones))) := by
    rw [crc_append, le4, crc4, le4_val]
    congr 4
    rw [BitVec.xor_comm ones, ← BitVec.xor_assoc, BitVec.xor_self, BitVec.zero_xor]
  unfold sumF
  rw [h]
  decide
end Go.My
