/- The document's own way to read a number: plain mathematics. -/
import Derived.Test.YtnphncemghfkbaaGreatQ11
set_option linter.unusedSimpArgs false
set_option linter.unusedVariables false
namespace Go.My

/-- the first n bytes ask for more -/
def Lead (l : List UInt8) (n : Nat) : Prop := n ≤ l.length ∧ n ≤ 10 ∧ ∀ c ∈ l.take n, 128 ≤ c.toNat
theorem Lead.zero (l : List UInt8) : Lead l 0 := ⟨Nat.zero_le _, by omega, fun c h => by simp at h⟩
theorem Lead.next {l : List UInt8} {n : Nat} (h : Lead l n) (hn : n < l.length) (h10 : n < 10) (hc : 128 ≤ l[n].toNat) : Lead l (n + 1) := by
  refine ⟨hn, h10, fun c hm => ?_⟩
  rw [List.take_succ_eq_append_getElem hn, List.mem_append, List.mem_singleton] at hm
  rcases hm with hm | rfl
  · exact h.2.2 c hm
  · exact hc
/-- the number that the first k bytes are -/
def valF : Nat → List UInt8 → Nat
  | 0, _ => 0
  | _ + 1, [] => 0
  | k + 1, c :: l => c.toNat % 128 + 128 * valF k l
theorem valF_drop {l : List UInt8} {i : Nat} (k : Nat) (h : i < l.length) : valF (k + 1) (l.drop i) = l[i].toNat % 128 + 128 * valF k (l.drop (i + 1)) := by
  rw [List.drop_eq_getElem_cons h]
  rfl
theorem decF_end : ∀ (l : List UInt8) (i m : Nat), i + l.length ≤ 10 → (∀ c ∈ l, 128 ≤ c.toNat) → decF i m l = (0, 0, 4)
  | [], _, _, _, _ => rfl
  | c :: l, i, m, h, hc => by
    simp only [List.length_cons] at h
    unfold decF
    rw [if_neg (by omega), if_pos (hc c (by simp))]
    exact decF_end l (i + 1) _ (by omega) (fun d hd => hc d (by simp [hd]))
theorem decF_long : ∀ (n : Nat) (l : List UInt8) (i m : Nat), i + n = 10 → n < l.length → (∀ c ∈ l.take n, 128 ≤ c.toNat) → decF i m l = (0, 0, 3)
  | _, [], _, _, _, h, _ => by simp at h
  | 0, c :: l, i, m, h, hn, hc => by
    unfold decF
    rw [if_pos (by omega)]
  | n + 1, c :: l, i, m, h, hn, hc => by
    simp only [List.length_cons] at hn
    unfold decF
    rw [if_neg (by omega), if_pos (hc c (by simp))]
    exact decF_long n l (i + 1) _ (by omega) (by omega) (fun d hd => hc d (by simp [hd]))
theorem decF_val : ∀ (n : Nat) (l : List UInt8) (i m : Nat), i + n ≤ 9 → (hn : n < l.length) → (∀ c ∈ l.take n, 128 ≤ c.toNat) → l[n].toNat < 128 →
    decF i m l = (0, 0, 3) ∨ decF i m l = (m + 128 ^ i * valF (n + 1) l, i + n + 1, 0)
  | _, [], _, _, _, h, _, _ => by simp at h
  | 0, c :: l, i, m, h, hn, hc, hl => by
    have hl' : c.toNat < 128 := hl
    unfold decF
    rw [if_neg (by omega), if_neg (by omega)]
    split
    · exact .inl rfl
    · right
      simp only [valF, Nat.mul_zero, Nat.add_zero]
      rw [Nat.mod_eq_of_lt hl', Nat.mul_comm]
  | n + 1, c :: l, i, m, h, hn, hc, hl => by
    simp only [List.length_cons] at hn
    have hcc : 128 ≤ c.toNat := hc c (by simp)
    have hc2 : c.toNat < 256 := c.toNat_lt
    unfold decF
    rw [if_neg (by omega), if_pos hcc]
    have ih := decF_val n l (i + 1) (m + (c.toNat - 128) * 128 ^ i) (by omega) (by omega) (fun d hd => hc d (by simp [hd])) hl
    rcases ih with e | e
    · exact .inl e
    · right
      rw [e]
      have e1 : valF (n + 1 + 1) (c :: l) = c.toNat % 128 + 128 * valF (n + 1) l := rfl
      have e2 : c.toNat % 128 = c.toNat - 128 := by omega
      rw [e1, e2, pow_step, Nat.mul_add]
      have e3 : 128 * 128 ^ i * valF (n + 1) l = 128 ^ i * (128 * valF (n + 1) l) := by rw [Nat.mul_comm 128, Nat.mul_assoc]
      rw [e3, Nat.mul_comm (c.toNat - 128), Nat.add_assoc]
      congr 2
      omega
theorem dec_torn_of {l : List UInt8} {n : Nat} (h : Lead l n) (hn : n = l.length) : dec l = (0, 0, 4) := by
  subst hn
  refine decF_end l 0 0 (by have := h.2.1; omega) (fun c hc => h.2.2 c ?_)
  rw [List.take_length]
  exact hc
theorem dec_long_of {l : List UInt8} {n : Nat} (h : Lead l n) (hn : n < l.length) (h10 : n = 10) : dec l = (0, 0, 3) := decF_long n l 0 0 (by omega) hn h.2.2
theorem dec_val_of {l : List UInt8} {n m : Nat} (h : Lead l n) (hn : n < l.length) (h10 : n < 10) (hl : l[n].toNat < 128) (hm : m = valF (n + 1) l % 18446744073709551616) :
    (enc m = l.take (n + 1) → dec l = (m, n + 1, 0)) ∧ (enc m ≠ l.take (n + 1) → dec l = (0, 0, 3)) := by
  have hm2 : m < 18446744073709551616 := by omega
  have hlen : (l.take (n + 1)).length = n + 1 := by rw [List.length_take]; omega
  constructor
  · intro he
    have h1 : l = enc m ++ l.drop (n + 1) := by rw [he, List.take_append_drop]
    have h2 := dec_enc m (l.drop (n + 1)) hm2
    rw [← h1] at h2
    rw [h2, he, hlen]
  · intro he
    rcases decF_val n l 0 0 (by omega) hn h.2.2 hl with e | e
    · exact e
    · exfalso
      have e' : dec l = (valF (n + 1) l, n + 1, 0) := by show decF 0 0 l = _; rw [e]; simp
      obtain ⟨_, _, h3, h4⟩ := dec_only l _ _ e'
      exact he (by rw [h3, hm, Nat.mod_eq_of_lt h4])
end Go.My
