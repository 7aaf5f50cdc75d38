import Ieee.Arith
import Derived.Laws.FloatBits
import GoSem.Core.Float
namespace Go.My.Fl
open Ieee
set_option linter.unusedVariables false
set_option linter.unusedSimpArgs false

/-! ### powers of two -/
def pw (n : Nat) : Nat := 2 ^ n
theorem pw_add (a b : Nat) : pw (a + b) = pw a * pw b := Nat.pow_add 2 a b
theorem pw_pos (a : Nat) : 0 < pw a := Nat.two_pow_pos a
theorem pw_succ (a : Nat) : pw (a + 1) = 2 * pw a := by unfold pw; rw [Nat.pow_succ]; omega
theorem pw_le {a b : Nat} (h : a ≤ b) : pw a ≤ pw b := Nat.pow_le_pow_right (by decide) h
theorem pw_lt {a b : Nat} (h : a < b) : pw a < pw b := Nat.pow_lt_pow_right (by decide) h
theorem pw_52 : pw 52 = 4503599627370496 := by unfold pw; decide
theorem pw_53 : pw 53 = 9007199254740992 := by unfold pw; decide
theorem pw_0 : pw 0 = 1 := rfl
theorem pw_53' : pw 53 = 2 * pw 52 := by rw [pw_52, pw_53]
attribute [irreducible] pw
theorem log2_bound (n : Nat) (h : 0 < n) : pw n.log2 ≤ n ∧ n < pw (n.log2 + 1) :=
  ⟨by unfold pw; exact Nat.log2_self_le (by omega), by unfold pw; exact Nat.lt_log2_self⟩
theorem log2_lt_of {n k : Nat} (h : n < pw (k + 1)) : n.log2 ≤ k := by
  by_cases h0 : n = 0
  · subst h0; simp
  · have := (Nat.log2_lt (n := n) (k := k + 1) h0).2 (by unfold pw at h; exact h)
    omega
theorem le_log2_of {n k : Nat} (h : pw k ≤ n) : k ≤ n.log2 := by
  have := pw_pos k
  refine (Nat.le_log2 (by omega)).2 ?_
  unfold pw at h; exact h

/-! ### to the nearest, of two to the even one -/
def rne (n g : Nat) : Nat := n / g + if g < 2 * (n % g) ∨ (g = 2 * (n % g) ∧ n / g % 2 = 1) then 1 else 0

theorem rne_mul (n g k : Nat) (hk : 0 < k) : rne (n * k) (g * k) = rne n g := by
  unfold rne
  rw [Nat.mul_div_mul_right _ _ hk, Nat.mul_mod_mul_right]
  have e1 : (g * k < 2 * (n % g * k)) ↔ g < 2 * (n % g) := by
    rw [← Nat.mul_assoc]; exact Nat.mul_lt_mul_right hk
  have e2 : (g * k = 2 * (n % g * k)) ↔ g = 2 * (n % g) := by
    rw [← Nat.mul_assoc]; exact ⟨fun h => Nat.eq_of_mul_eq_mul_right hk h, fun h => by rw [← h]⟩
  simp only [e1, e2]

theorem rne_le {a b g : Nat} (hg : 0 < g) (h : a ≤ b) : rne a g ≤ rne b g := by
  unfold rne
  have ha := Nat.div_add_mod a g
  have hb := Nat.div_add_mod b g
  have hm := Nat.mod_lt a hg
  have hn := Nat.mod_lt b hg
  have hd : a / g ≤ b / g := Nat.div_le_div_right h
  by_cases e : a / g = b / g
  · rw [e] at ha ⊢
    have : a % g ≤ b % g := by omega
    split <;> split <;> omega
  · split <;> split <;> omega

/-- off by half at most -/
theorem rne_near (n g : Nat) (hg : 0 < g) : 2 * (rne n g * g) ≤ 2 * n + g ∧ 2 * n ≤ 2 * (rne n g * g) + g := by
  unfold rne
  have ha := Nat.div_add_mod n g
  have hm := Nat.mod_lt n hg
  rw [Nat.mul_comm] at ha
  split
  · rw [Nat.add_mul]; omega
  · rw [Nat.add_zero]; omega

theorem rne_exact (k g : Nat) (hg : 0 < g) : rne (k * g) g = k := by
  unfold rne
  rw [Nat.mul_div_cancel _ hg, Nat.mul_mod_left]
  rw [if_neg (by omega)]; rfl

theorem rne_le_of {n g k : Nat} (hg : 0 < g) (h : n ≤ k * g) : rne n g ≤ k := by
  have := rne_le hg h
  rwa [rne_exact k g hg] at this
theorem le_rne_of {n g k : Nat} (hg : 0 < g) (h : k * g ≤ n) : k ≤ rne n g := by
  have := rne_le hg h
  rwa [rne_exact k g hg] at this

theorem cut_even (neg : Bool) (n d : Nat) : Toward.even.cut neg n d = rne n (pw d) := by
  rw [show pw d = 2 ^ d by unfold pw; rfl]
  unfold Toward.cut rne
  simp only [Nat.one_shiftLeft]
  by_cases h : d ≤ n.log2 + 2
  · rw [Nat.min_eq_left h]
    congr 1
    by_cases c : 2 ^ d < 2 * (n % 2 ^ d) ∨ (2 ^ d = 2 * (n % 2 ^ d) ∧ n / 2 ^ d % 2 = 1)
    · rw [if_pos c]
      rcases c with c | ⟨c, c'⟩
      · simp [c]
      · rw [← c, c']; simp
    · rw [if_neg c]
      simp only [not_or, not_and] at c
      have c1 : decide (2 ^ d < 2 * (n % 2 ^ d)) = false := by simpa using c.1
      have c2 : (2 ^ d == 2 * (n % 2 ^ d) && n / 2 ^ d % 2 == 1) = false := by
        rw [Bool.and_eq_false_iff]
        by_cases e : 2 ^ d = 2 * (n % 2 ^ d)
        · exact .inr (by simpa using c.2 e)
        · exact .inl (by simpa using e)
      rw [c1, c2]; rfl
  · rw [Nat.min_eq_right (by omega)]
    have hn : n < 2 ^ (n.log2 + 1) := Nat.lt_log2_self
    have h2 : 2 ^ (n.log2 + 2) = 2 * 2 ^ (n.log2 + 1) := by rw [Nat.pow_succ]; omega
    have h3 : 2 ^ (n.log2 + 2) ≤ 2 ^ d := Nat.pow_le_pow_right (by decide) (by omega)
    generalize 2 ^ (n.log2 + 2) = A at *
    generalize 2 ^ (n.log2 + 1) = B at *
    generalize 2 ^ d = D at *
    rw [Nat.div_eq_of_lt (by omega), Nat.div_eq_of_lt (by omega), Nat.mod_eq_of_lt (a := n) (b := D) (by omega), Nat.mod_eq_of_lt (a := n) (b := A) (by omega), if_neg (by omega)]
    have c1 : decide (A < 2 * n) = false := by simp; omega
    rw [c1]; simp

theorem cut_zero (neg : Bool) (n d : Nat) : Toward.zero.cut neg n d = n / pw d := by
  rw [show pw d = 2 ^ d by unfold pw; rfl]
  unfold Toward.cut
  simp only [Nat.one_shiftLeft]
  change n / _ + 0 = _
  rw [Nat.add_zero]
  by_cases h : d ≤ n.log2 + 2
  · rw [Nat.min_eq_left h]
  · rw [Nat.min_eq_right (by omega)]
    have hn : n < 2 ^ (n.log2 + 1) := Nat.lt_log2_self
    have h2 : 2 ^ (n.log2 + 2) = 2 * 2 ^ (n.log2 + 1) := by rw [Nat.pow_succ]; omega
    have h3 : 2 ^ (n.log2 + 2) ≤ 2 ^ d := Nat.pow_le_pow_right (by decide) (by omega)
    change n / 2 ^ (n.log2 + 2) = n / 2 ^ d
    generalize 2 ^ (n.log2 + 2) = A at *
    generalize 2 ^ (n.log2 + 1) = B at *
    generalize 2 ^ d = D at *
    rw [Nat.div_eq_of_lt (by omega), Nat.div_eq_of_lt (by omega)]

/-! ### rungs of scaled magnitudes: M stands for M / 2^2200 -/
def lev (M : Nat) : Nat := max (M.log2 - 52) 1126
def rg (M : Nat) : Nat := (lev M - 1126) * pw 52 + rne M (pw (lev M))
def dec (r : Nat) : Nat := if r < pw 52 then r * pw 1126 else (pw 52 + r % pw 52) * pw (1125 + r / pw 52)
def top : Nat := 2047 * pw 52

theorem lev_ge (M : Nat) : 1126 ≤ lev M := Nat.le_max_right ..
theorem infRung_eq : double.infRung = top := by unfold top pw; decide
theorem binade_eq : double.binade = pw 52 := by unfold pw; rfl
theorem sign_eq : double.signWeight = pw 63 := by unfold pw; rfl
theorem least_eq : double.leastPlace = -1074 := by decide

theorem nearest_eq (neg : Bool) (mag : Nat) (place : Int) (hp : -2200 ≤ place) :
    double.nearest neg mag place = double.word neg (min (rg (mag * pw (place + 2200).toNat)) top) := by
  unfold Format.nearest
  by_cases h0 : mag = 0
  · subst h0
    simp only [if_pos, Nat.zero_mul]
    congr 1
    have : rg 0 = 0 := by
      unfold rg
      rw [show lev 0 = 1126 by decide]
      have := rne_exact 0 (pw 1126) (pw_pos _)
      rw [Nat.zero_mul] at this
      rw [this]; omega
    rw [this, Nat.zero_min]
  · rw [if_neg h0]
    simp only [infRung_eq, binade_eq, least_eq, cut_even, show (double.fractionBits : Int) = 52 from rfl]
    obtain ⟨p, rfl⟩ : ∃ p : Nat, place = (p : Int) - 2200 := ⟨(place + 2200).toNat, by omega⟩
    rw [show ((p : Int) - 2200 + 2200).toNat = p by omega]
    have hl : (mag * pw p).log2 = mag.log2 + p := by
      have b := log2_bound mag (by omega)
      apply Nat.le_antisymm
      · apply log2_lt_of
        rw [show mag.log2 + p + 1 = mag.log2 + 1 + p by omega, pw_add]
        exact Nat.mul_lt_mul_of_pos_right b.2 (pw_pos p)
      · apply le_log2_of
        rw [pw_add]
        exact Nat.mul_le_mul_right _ b.1
    have hL : max ((p : Int) - 2200 + (mag.log2 : Int) - 52) (-1074) = (lev (mag * pw p) : Int) - 2200 := by
      unfold lev; rw [hl]; omega
    rw [hL]
    have hg := lev_ge (mag * pw p)
    unfold rg
    generalize lev (mag * pw p) = L at *
    rw [show ((L : Int) - 2200 - -1074).toNat = L - 1126 by omega]
    refine congrArg (fun k => double.word neg (min ((L - 1126) * pw 52 + k) top)) ?_
    by_cases hc : L ≤ p
    · rw [show ((p : Int) - 2200 - ((L : Int) - 2200)).toNat = p - L by omega, show ((L : Int) - 2200 - ((p : Int) - 2200)).toNat = 0 by omega, Nat.shiftLeft_eq]
      have e1 : mag * pw p = mag * pw (p - L) * pw L := by rw [Nat.mul_assoc, ← pw_add, show p - L + L = p by omega]
      rw [e1, rne_exact _ _ (pw_pos L)]
      have := rne_exact (mag * pw (p - L)) (pw 0) (pw_pos 0)
      rw [pw_0, Nat.mul_one] at this
      rw [pw_0]; rw [show (2 : Nat) ^ (p - L) = pw (p - L) by unfold pw; rfl]; exact this
    · rw [show ((p : Int) - 2200 - ((L : Int) - 2200)).toNat = 0 by omega, show ((L : Int) - 2200 - ((p : Int) - 2200)).toNat = L - p by omega, Nat.shiftLeft_zero]
      have e1 : pw L = pw (L - p) * pw p := by rw [← pw_add, show L - p + p = L by omega]
      rw [e1, rne_mul _ _ _ (pw_pos p)]

theorem log2_le {a b : Nat} (h : a ≤ b) : a.log2 ≤ b.log2 := by
  apply log2_lt_of
  have := Nat.lt_log2_self (n := b)
  unfold pw
  exact Nat.lt_of_le_of_lt h this
theorem lev_le {a b : Nat} (h : a ≤ b) : lev a ≤ lev b := by
  have := log2_le h
  unfold lev; omega
theorem lev_lt (M : Nat) : M < pw (lev M + 53) := by
  have := Nat.lt_log2_self (n := M)
  have h := pw_le (show M.log2 + 1 ≤ lev M + 53 by unfold lev; omega)
  unfold pw at h ⊢
  omega
theorem kept_le (M : Nat) : rne M (pw (lev M)) ≤ pw 53 := by
  refine rne_le_of (pw_pos _) ?_
  have := lev_lt M
  rw [Nat.add_comm, pw_add] at this
  omega
theorem le_kept (M : Nat) (h : 1126 < lev M) : pw 52 ≤ rne M (pw (lev M)) := by
  refine le_rne_of (pw_pos _) ?_
  rw [← pw_add]
  have h1 : 52 + lev M = M.log2 := by unfold lev at h ⊢; omega
  rw [h1]
  unfold pw
  refine Nat.log2_self_le (by rintro rfl; simp [lev] at h)

theorem rg_le {a b : Nat} (h : a ≤ b) : rg a ≤ rg b := by
  by_cases e : lev a = lev b
  · unfold rg
    rw [e]
    have := rne_le (pw_pos (lev b)) h
    omega
  · have h1 := lev_le h
    have h2 := kept_le a
    have h3 := le_kept b (by have := lev_ge a; omega)
    have h4 := lev_ge a
    unfold rg
    rw [pw_53] at h2; rw [pw_52] at *
    omega

/-- what a rung stands for -/
theorem dec_rg (M : Nat) : dec (rg M) = rne M (pw (lev M)) * pw (lev M) := by
  have h1 := kept_le M
  have h2 := lev_ge M
  have h3 := le_kept M
  unfold rg dec
  generalize rne M (pw (lev M)) = k at *
  generalize lev M = L at *
  have q := pw_53
  have q' := pw_52
  by_cases h : L = 1126
  · subst h
    simp only [Nat.sub_self, Nat.zero_mul, Nat.zero_add]
    by_cases c : k < pw 52
    · rw [if_pos c]
    · rw [if_neg c]
      by_cases c2 : k = pw 53
      · subst c2
        rw [show pw 53 % pw 52 = 0 by rw [q, q'], show pw 53 / pw 52 = 2 by rw [q, q'], show 1125 + 2 = 1126 + 1 from rfl, pw_succ 1126, pw_53']
        rw [Nat.add_zero]
        simp only [Nat.mul_comm, Nat.mul_left_comm, Nat.mul_assoc]
      · rw [show k / pw 52 = 1 by rw [q']; omega, show k % pw 52 = k - pw 52 by rw [q']; omega, show pw 52 + (k - pw 52) = k by omega]
  · have h3 := h3 (by omega)
    rw [if_neg (by omega)]
    by_cases c2 : k = pw 53
    · subst c2
      rw [show ((L - 1126) * pw 52 + pw 53) = (L - 1124) * pw 52 by rw [q, q']; omega, Nat.mul_mod_left, Nat.mul_div_cancel _ (pw_pos _), show 1125 + (L - 1124) = L + 1 by omega, pw_succ L, pw_53']
      rw [Nat.add_zero]
      simp only [Nat.mul_comm, Nat.mul_left_comm, Nat.mul_assoc]
    · have e1 : ((L - 1126) * pw 52 + k) / pw 52 = L - 1125 := by rw [q'] at *; omega
      have e2 : ((L - 1126) * pw 52 + k) % pw 52 = k - pw 52 := by rw [q'] at *; omega
      rw [e1, e2, show 1125 + (L - 1125) = L by omega, show pw 52 + (k - pw 52) = k by omega]

/-- a magnitude that a word has -/
def Rp (M : Nat) : Prop := ∃ m j, m ≤ pw 53 ∧ 1126 ≤ j ∧ M = m * pw j

theorem rne_div {n g : Nat} (hg : 0 < g) (h : n % g = 0) : rne n g * g = n := by
  unfold rne
  rw [if_neg (by omega), Nat.add_zero]
  have := Nat.div_add_mod n g
  rw [Nat.mul_comm] at this
  omega

theorem rg_exact {M : Nat} (h : Rp M) : dec (rg M) = M := by
  obtain ⟨m, j, hm, hj, rfl⟩ := h
  rw [dec_rg]
  refine rne_div (pw_pos _) ?_
  by_cases h53 : m = pw 53
  · subst h53
    rw [← pw_add]
    have : (pw (53 + j)).log2 ≤ 53 + j := log2_lt_of (pw_lt (by omega))
    have hl : lev (pw (53 + j)) ≤ j + 1 := by unfold lev; omega
    generalize lev (pw (53 + j)) = L at *
    rw [show 53 + j = (53 + j - L) + L by omega, pw_add, Nat.mul_mod_left]
  · have : (m * pw j).log2 ≤ 52 + j := log2_lt_of (by
      rw [show 52 + j + 1 = 53 + j by omega, pw_add]
      exact Nat.mul_lt_mul_of_pos_right (by omega) (pw_pos _))
    have hl : lev (m * pw j) ≤ j := by unfold lev; omega
    generalize lev (m * pw j) = L at *
    rw [show j = (j - L) + L by omega, pw_add, ← Nat.mul_assoc, Nat.mul_mod_left]


/-! ### words -/
/-- the unit -/
def U : Int := (pw 2200 : Nat)
theorem U_pos : 0 < U := by unfold U; have := pw_pos 2200; omega
/-- the word b is a number: v / U -/
def Fl (b : Nat) (v : Int) : Prop := ∃ s m e, double.read b = .number s m e ∧ -1074 ≤ e ∧ e ≤ 971 ∧ m < pw 53 ∧ v = signed s (m * pw (e + 2200).toNat) 0

theorem signed_0 (s : Bool) (m : Nat) : signed s m 0 = if s then -(m : Int) else (m : Int) := by simp [signed]
theorem signed_up (s : Bool) (m k : Nat) : signed s m k = signed s (m * pw k) 0 := by
  unfold signed pw; simp only [Nat.shiftLeft_eq, Nat.pow_zero, Nat.mul_one]
theorem signed_abs (s : Bool) (m : Nat) : (signed s m 0).natAbs = m := by rw [signed_0]; cases s <;> simp

theorem word_read (neg : Bool) (r : Nat) (h : r < top) : ∃ m e, double.read (double.word neg r) = .number neg m e ∧ -1074 ≤ e ∧ e ≤ 971 ∧ m < pw 53 ∧ m * pw (e + 2200).toNat = dec r := by
  have q52 := pw_52
  have q53 := pw_53
  have q63 : pw 63 = 9223372036854775808 := by unfold pw; decide
  have ht : top = 9218868437227405312 := by unfold top; rw [q52]
  unfold Format.read
  simp only [sign_eq, binade_eq, infRung_eq, least_eq]
  have e1 : double.word neg r % pw 63 = r := by
    unfold Format.word; rw [sign_eq]; split
    · rw [Nat.add_mod_left, Nat.mod_eq_of_lt (by omega)]
    · rw [Nat.mod_eq_of_lt (by omega)]
  have e2 : (double.word neg r / pw 63 % 2 == 1) = neg := by
    unfold Format.word; rw [sign_eq, q63]; cases neg
    · simp; omega
    · simp; omega
  rw [e1, e2]
  unfold dec
  by_cases c : r < pw 52
  · rw [if_pos c, if_pos c]
    exact ⟨_, _, rfl, by omega, by omega, by omega, by rw [show ((-1074 : Int) + 2200).toNat = 1126 by decide]⟩
  · rw [if_neg c, if_pos h, if_neg c]
    refine ⟨_, _, rfl, by omega, ?_, ?_, ?_⟩
    · rw [ht] at h
      rw [q52] at c ⊢; omega
    · have := Nat.mod_lt r (pw_pos 52); omega
    · rw [show ((-1074 : Int) + ((r / pw 52 - 1 : Nat) : Int) + 2200).toNat = 1125 + r / pw 52 by rw [q52] at *; omega]

theorem fl_word (neg : Bool) (r : Nat) (h : r < top) : Fl (double.word neg r) (signed neg (dec r) 0) := by
  obtain ⟨m, e, h1, h2, h3, h4, h5⟩ := word_read neg r h
  exact ⟨neg, m, e, h1, h2, h3, h4, by rw [h5]⟩

/-- r is w, rounded -/
def RN (w : Int) (r : Nat) : Prop := ∃ s : Bool, r = double.word s (min (rg w.natAbs) top) ∧ (w ≠ 0 → s = decide (w < 0))

theorem rg_top {M : Nat} (h : M < pw 3224) (hr : Rp M) : rg M < top := by
  have hd := rg_exact hr
  rw [dec_rg] at hd
  have hl : lev M ≤ 3171 := by
    have : M.log2 ≤ 3223 := log2_lt_of h
    unfold lev; omega
  have hk : rne M (pw (lev M)) ≤ pw 53 := kept_le M
  have q52 := pw_52
  have q53 := pw_53
  have hg := lev_ge M
  unfold top rg
  by_cases c : rne M (pw (lev M)) = pw 53
  · rw [c, ← pw_add] at hd
    have : 53 + lev M < 3224 := by
      apply Nat.lt_of_not_le; intro hh
      have := pw_le hh
      omega
    rw [c, q53, q52]; omega
  · rw [q53] at hk c; rw [q52]; omega

theorem RN.exact {w : Int} {r : Nat} (h : RN w r) (hr : Rp w.natAbs) (hb : w.natAbs < pw 3224) : Fl r w := by
  obtain ⟨s, rfl, hs⟩ := h
  have ht := rg_top hb hr
  rw [Nat.min_eq_left (by omega)]
  have := fl_word s _ ht
  rw [rg_exact hr] at this
  by_cases c : w = 0
  · subst c
    have e : signed s (0 : Int).natAbs 0 = 0 := by rw [signed_0]; cases s <;> rfl
    rw [e] at this; exact this
  · have hd := hs c
    have e : signed s w.natAbs 0 = w := by
      rw [signed_0, hd]
      by_cases c2 : w < 0
      · rw [decide_eq_true c2, if_pos rfl]; omega
      · rw [decide_eq_false c2, if_neg (by decide)]; omega
    rw [e] at this; exact this

theorem Fl.rp {b : Nat} {v : Int} (h : Fl b v) : Rp v.natAbs := by
  obtain ⟨s, m, e, h1, h2, h3, h4, rfl⟩ := h
  rw [signed_abs]
  exact ⟨m, (e + 2200).toNat, by omega, by omega, rfl⟩
theorem Fl.lt {b : Nat} {v : Int} (h : Fl b v) : v.natAbs < pw 3224 := by
  obtain ⟨s, m, e, h1, h2, h3, h4, rfl⟩ := h
  rw [signed_abs]
  have : pw (e + 2200).toNat ≤ pw 3171 := pw_le (by omega)
  calc m * pw (e + 2200).toNat ≤ m * pw 3171 := Nat.mul_le_mul_left _ this
    _ < pw 53 * pw 3171 := Nat.mul_lt_mul_of_pos_right h4 (pw_pos _)
    _ = pw 3224 := by rw [← pw_add]

theorem dec_le {r t : Nat} (h : r ≤ t) : dec r ≤ dec t := by
  have q52 := pw_52
  have q53 := pw_53'
  unfold dec
  by_cases c : t < pw 52
  · rw [if_pos (by omega), if_pos c]
    exact Nat.mul_le_mul_right _ h
  · rw [if_neg c]
    have p1 : 1 ≤ t / pw 52 := by rw [q52] at *; omega
    by_cases c2 : r < pw 52
    · rw [if_pos c2]
      have : pw 1126 ≤ pw (1125 + t / pw 52) := pw_le (by omega)
      exact Nat.mul_le_mul (by omega) this
    · rw [if_neg c2]
      by_cases e : r / pw 52 = t / pw 52
      · rw [e]
        refine Nat.mul_le_mul_right _ ?_
        rw [q52] at *; omega
      · have h2 : r / pw 52 + 1 ≤ t / pw 52 := by
          have : r / pw 52 ≤ t / pw 52 := Nat.div_le_div_right h
          omega
        have h3 := Nat.mod_lt r (pw_pos 52)
        calc (pw 52 + r % pw 52) * pw (1125 + r / pw 52) ≤ (pw 53) * pw (1125 + r / pw 52) := Nat.mul_le_mul_right _ (by omega)
          _ = pw 52 * pw (1125 + (r / pw 52 + 1)) := by
              rw [q53, show 1125 + (r / pw 52 + 1) = 1125 + r / pw 52 + 1 by omega, pw_succ (1125 + r / pw 52), Nat.mul_assoc, Nat.mul_left_comm]
          _ ≤ pw 52 * pw (1125 + t / pw 52) := Nat.mul_le_mul_left _ (pw_le (by omega))
          _ ≤ _ := Nat.mul_le_mul_right _ (by omega)
theorem read_top (s : Bool) : double.read (double.word s top) = .infinity s := by
  unfold top pw; cases s <;> decide +kernel
theorem fl_top (s : Bool) (v : Int) : ¬ Fl (double.word s top) v := by
  rintro ⟨s', m, e, h1, _⟩
  rw [read_top] at h1; cases h1

theorem Fl.uniq {b : Nat} {u v : Int} (h : Fl b u) (k : Fl b v) : u = v := by
  obtain ⟨s, m, e, h1, h2, h3, h4, rfl⟩ := h
  obtain ⟨t, n, f, k1, k2, k3, k4, rfl⟩ := k
  rw [h1] at k1; injection k1 with a b c; subst a b c; rfl

/-- what is a number's, and what is below it stays below -/
theorem RN.le {w c : Int} {r : Nat} (h : RN w r) (hr : Rp c.natAbs) {v : Int} (hv : Fl r v) (hwc : w ≤ c) : v ≤ c := by
  obtain ⟨s, rfl, hs⟩ := h
  by_cases ht : rg w.natAbs < top
  · rw [Nat.min_eq_left (by omega)] at hv
    have hv2 := Fl.uniq hv (fl_word s _ ht)
    by_cases c0 : w = 0
    · subst c0
      have : dec (rg 0) = 0 := rg_exact (M := 0) ⟨0, 1126, by omega, by omega, by omega⟩
      rw [signed_0] at hv2
      simp only [Int.natAbs_zero, this] at hv2
      cases s <;> simp at hv2 <;> omega
    · rw [hs c0, signed_0] at hv2
      have m1 : ∀ a b, a ≤ b → dec (rg a) ≤ dec (rg b) := fun a b h => dec_le (rg_le h)
      by_cases c2 : w < 0
      · simp only [c2, decide_true, if_true] at hv2
        by_cases c3 : 0 ≤ c
        · omega
        · have := m1 c.natAbs w.natAbs (by omega)
          rw [rg_exact hr] at this
          omega
      · simp only [c2, decide_false] at hv2
        have := m1 w.natAbs c.natAbs (by omega)
        rw [rg_exact hr] at this
        simp at hv2
        omega
  · rw [Nat.min_eq_right (by omega)] at hv
    exact absurd hv (fl_top s v)

theorem RN.neg {w : Int} {r : Nat} (h : RN w r) : ∃ r', RN (-w) r' ∧ ∀ v, Fl r v → Fl r' (-v) := by
  obtain ⟨s, rfl, hs⟩ := h
  refine ⟨_, ⟨!s, rfl, fun h0 => by
    rw [hs (by omega)]
    by_cases c : w < 0
    · rw [decide_eq_true c, decide_eq_false (by omega)]; rfl
    · rw [decide_eq_false c, decide_eq_true (by omega)]; rfl⟩, fun v hv => ?_⟩
  rw [Int.natAbs_neg]
  by_cases ht : rg w.natAbs < top
  · rw [Nat.min_eq_left (by omega)] at *
    have := hv.uniq (fl_word s _ ht)
    subst this
    have := fl_word (!s) _ ht
    rw [signed_0] at this ⊢
    cases s <;> simpa using this
  · rw [Nat.min_eq_right (by omega)] at *
    exact absurd hv (fl_top s v)
theorem RN.ge {w c : Int} {r : Nat} (h : RN w r) (hr : Rp c.natAbs) {v : Int} (hv : Fl r v) (hwc : c ≤ w) : c ≤ v := by
  obtain ⟨r', h1, h2⟩ := h.neg
  have := h1.le (c := -c) (by rwa [Int.natAbs_neg]) (h2 v hv) (by omega)
  omega
/-- what lies below a number is a number -/
theorem RN.fl {w c : Int} {r : Nat} (h : RN w r) (hr : Rp c.natAbs) (hc : c.natAbs < pw 3224) (hw : w.natAbs ≤ c.natAbs) : ∃ v, Fl r v := by
  obtain ⟨s, rfl, hs⟩ := h
  have h1 := rg_le hw
  have h2 := rg_top hc hr
  rw [Nat.min_eq_left (by omega)]
  exact ⟨_, fl_word s _ (by omega)⟩

/-! ### the operations -/
theorem signed_shift (s : Bool) (m : Nat) (i b : Int) (hb : -1100 ≤ b) (hi : b ≤ i) : signed s m (i - b).toNat * (pw (b + 2200).toNat : Nat) = signed s (m * pw (i + 2200).toNat) 0 := by
  rw [signed_up, signed_0, signed_0]
  have : pw (i + 2200).toNat = pw (i - b).toNat * pw (b + 2200).toNat := by rw [← pw_add]; congr 1; omega
  rw [this, ← Nat.mul_assoc]
  cases s <;> simp [Int.natCast_mul, Int.neg_mul]

theorem Fl.order {a b : Nat} {u v : Int} (h : Fl a u) (k : Fl b v) : double.order a b = some (compare u v) := by
  obtain ⟨s, m, e, h1, h2, h3, h4, rfl⟩ := h
  obtain ⟨t, n, f, k1, k2, k3, k4, rfl⟩ := k
  unfold Format.order
  rw [h1, k1]
  unfold Datum.order
  simp only
  congr 1
  have g1 := signed_shift s m e (min e f) (by omega) (by omega)
  have g2 := signed_shift t n f (min e f) (by omega) (by omega)
  rw [← g1, ← g2]
  have hp : (0 : Int) < (pw (min e f + 2200).toNat : Nat) := by have := pw_pos (min e f + 2200).toNat; omega
  generalize signed s m (e - min e f).toNat = A
  generalize signed t n (f - min e f).toNat = B
  generalize ((pw (min e f + 2200).toNat : Nat) : Int) = P at *
  simp only [compare, compareOfLessAndEq]
  have e1 : (A * P < B * P) ↔ A < B := ⟨fun h => Int.lt_of_mul_lt_mul_right h (by omega), fun h => Int.mul_lt_mul_of_pos_right h hp⟩
  have e2 : (A * P = B * P) ↔ A = B := ⟨fun h => Int.eq_of_mul_eq_mul_right (by omega) h, fun h => by rw [h]⟩
  simp only [e1, e2]

theorem read_fl (b : Nat) {s : Bool} {m : Nat} {e : Int} (h : double.read b = .number s m e) : Fl b (signed s (m * pw (e + 2200).toNat) 0) := by
  refine ⟨s, m, e, h, ?_, ?_, ?_, rfl⟩
  all_goals
    unfold Format.read at h
    simp only [sign_eq, binade_eq, infRung_eq, least_eq] at h
    have q52 := pw_52
    have q53 := pw_53
    have ht : top = 9218868437227405312 := by unfold top; rw [q52]
    rw [q52, ht] at h
    split at h
    · cases h; omega
    · split at h
      · injection h with h1 h2 h3; omega
      · split at h <;> cases h

theorem Fl.mul {a b : Nat} {u v : Int} (h : Fl a u) (k : Fl b v) : ∃ r w, double.mul a b = some r ∧ RN w r ∧ w * U = u * v := by
  obtain ⟨s, m, e, h1, h2, h3, h4, rfl⟩ := h
  obtain ⟨t, n, f, k1, k2, k3, k4, rfl⟩ := k
  unfold Format.mul
  rw [h1, k1]
  unfold Datum.product
  simp only [Option.map_some]
  unfold Format.write
  simp only
  rw [nearest_eq _ _ _ (by omega)]
  refine ⟨_, signed (s ^^ t) (m * n * pw (e + f + 2200).toNat) 0, rfl, ⟨_, by rw [signed_abs], fun h0 => ?_⟩, ?_⟩
  · rw [signed_0] at h0 ⊢
    generalize m * n * pw (e + f + 2200).toNat = M at *
    generalize (s ^^ t) = x at *
    cases x
    · simp only [Bool.false_eq_true, if_false] at h0 ⊢
      rw [decide_eq_false (by omega)]
    · simp only [if_true] at h0 ⊢
      rw [decide_eq_true (by omega)]
  · have : pw (e + f + 2200).toNat * pw 2200 = pw (e + 2200).toNat * pw (f + 2200).toNat := by rw [← pw_add, ← pw_add]; congr 1; omega
    have h5 : m * n * pw (e + f + 2200).toNat * pw 2200 = (m * pw (e + 2200).toNat) * (n * pw (f + 2200).toNat) := by
      rw [Nat.mul_assoc (m * n), this]; simp only [Nat.mul_comm, Nat.mul_left_comm, Nat.mul_assoc]
    unfold U
    simp only [signed_0]
    have h6 := congrArg (fun x : Nat => (x : Int)) h5
    simp only [Int.natCast_mul] at h6 ⊢
    cases s <;> cases t <;> simp [Int.neg_mul, Int.mul_neg] <;> simp [h6]

theorem Fl.opposite {b : Nat} {v : Int} (h : Fl b v) : ∃ s m e, (double.read b).opposite = .number s m e ∧ -1074 ≤ e ∧ e ≤ 971 ∧ m < pw 53 ∧ -v = signed s (m * pw (e + 2200).toNat) 0 := by
  obtain ⟨s, m, e, h1, h2, h3, h4, rfl⟩ := h
  refine ⟨!s, m, e, by rw [h1]; rfl, h2, h3, h4, ?_⟩
  rw [signed_0, signed_0]; cases s <;> simp

theorem sum_rn {d d' : Datum} {u v : Int} (h : ∃ s m e, d = .number s m e ∧ -1074 ≤ e ∧ e ≤ 971 ∧ m < pw 53 ∧ u = signed s (m * pw (e + 2200).toNat) 0) (k : ∃ s m e, d' = .number s m e ∧ -1074 ≤ e ∧ e ≤ 971 ∧ m < pw 53 ∧ v = signed s (m * pw (e + 2200).toNat) 0) :
    ∃ r, (d.sum d').map double.write = some r ∧ RN (u + v) r := by
  obtain ⟨s, m, e, rfl, h2, h3, h4, rfl⟩ := h
  obtain ⟨t, n, f, rfl, k2, k3, k4, rfl⟩ := k
  unfold Datum.sum
  simp only [Option.map_some]
  refine ⟨_, rfl, ?_⟩
  unfold Format.write
  simp only
  rw [nearest_eq _ _ _ (by omega)]
  have g1 := signed_shift s m e (min e f) (by omega) (by omega)
  have g2 := signed_shift t n f (min e f) (by omega) (by omega)
  rw [← g1, ← g2]
  have hp : (0 : Int) < (pw (min e f + 2200).toNat : Nat) := by have := pw_pos (min e f + 2200).toNat; omega
  generalize signed s m (e - min e f).toNat = A
  generalize signed t n (f - min e f).toNat = B
  generalize pw (min e f + 2200).toNat = P at *
  rw [← Int.add_mul]
  refine ⟨_, by rw [Int.natAbs_mul, Int.natAbs_natCast], fun h0 => ?_⟩
  have hAB : A + B ≠ 0 := by intro hh; rw [hh, Int.zero_mul] at h0; exact h0 rfl
  rw [if_neg hAB]
  have : ((A + B) * (P : Int) < 0) ↔ A + B < 0 := ⟨fun h => by
    apply Int.lt_of_mul_lt_mul_right (a := (P : Int)) (by simpa using h) (by omega), fun h => by
    have := Int.mul_lt_mul_of_pos_right h hp; simpa using this⟩
  simp only [this]

theorem Fl.add {a b : Nat} {u v : Int} (h : Fl a u) (k : Fl b v) : ∃ r, double.add a b = some r ∧ RN (u + v) r := sum_rn h k

theorem Fl.sub {a b : Nat} {u v : Int} (h : Fl a u) (k : Fl b v) : ∃ r, double.sub a b = some r ∧ RN (u - v) r := by
  rw [Int.sub_eq_add_neg]
  exact sum_rn h k.opposite

/-- a whole number -/
theorem nearest_int (n : Int) : RN (n * U) (FloatKind.f64.nearest n) := by
  unfold FloatKind.nearest FloatKind.encode
  change RN _ (double.write _)
  unfold Format.write
  simp only
  rw [nearest_eq _ _ _ (by omega)]
  have e : (n * U).natAbs = n.natAbs * pw (0 + 2200 : Int).toNat := by unfold U; rw [Int.natAbs_mul, Int.natAbs_natCast]; rfl
  refine ⟨_, by rw [e], fun h0 => ?_⟩
  have hU := U_pos
  have : (n * U < 0) ↔ n < 0 := ⟨fun h => by
    apply Int.lt_of_mul_lt_mul_right (a := U) (by simpa using h) (by omega), fun h => by
    have := Int.mul_lt_mul_of_pos_right h hU; simpa using this⟩
  simp only [this]
theorem rp_int {n : Int} (h : n.natAbs ≤ pw 53) : Rp (n * U).natAbs := ⟨n.natAbs, 2200, h, by omega, by unfold U; rw [Int.natAbs_mul, Int.natAbs_natCast]⟩
theorem int_lt {n : Int} (h : n.natAbs ≤ pw 53) : (n * U).natAbs < pw 3224 := by
  unfold U; rw [Int.natAbs_mul, Int.natAbs_natCast]
  have h1 : pw 53 * pw 2200 < pw 3224 := by rw [← pw_add]; exact pw_lt (by omega)
  have h2 := Nat.mul_le_mul_right (pw 2200) h
  omega
theorem fl_int {n : Int} (h : n.natAbs ≤ pw 53) : Fl (FloatKind.f64.nearest n) (n * U) := (nearest_int n).exact (rp_int h) (int_lt h)

/-! ### whole numbers out of numbers -/
/-- the nearest whole number, of two the even one -/
def rndI (v : Int) : Int := if v < 0 then -(rne v.natAbs (pw 2200) : Int) else (rne v.natAbs (pw 2200) : Int)

theorem shl_eq (m : Nat) (e : Int) (he : -2200 ≤ e) : rne (m <<< e.toNat) (pw (-e).toNat) = rne (m * pw (e + 2200).toNat) (pw 2200) ∧ (m <<< e.toNat) / (pw (-e).toNat) = (m * pw (e + 2200).toNat) / (pw 2200) := by
  rw [Nat.shiftLeft_eq]
  have e0 : (2 : Nat) ^ e.toNat = pw e.toNat := by unfold pw; rfl
  rw [e0]
  by_cases c : 0 ≤ e
  · have e1 : pw (e + 2200).toNat = pw e.toNat * pw 2200 := by rw [← pw_add]; congr 1; omega
    rw [show (-e).toNat = 0 by omega, e1, ← Nat.mul_assoc, rne_exact _ _ (pw_pos _), Nat.mul_div_cancel _ (pw_pos _)]
    have := rne_exact (m * pw e.toNat) (pw 0) (pw_pos _)
    rw [pw_0, Nat.mul_one] at this
    rw [pw_0, Nat.div_one]
    exact ⟨this, rfl⟩
  · have e1 : pw 2200 = pw (-e).toNat * pw (e + 2200).toNat := by rw [← pw_add]; congr 1; omega
    rw [show e.toNat = 0 by omega, pw_0, Nat.mul_one, e1, rne_mul _ _ _ (pw_pos _), Nat.mul_div_mul_right _ _ (pw_pos _)]
    exact ⟨rfl, rfl⟩

theorem rndI_signed (s : Bool) (M : Nat) : rndI (signed s M 0) = signed s (rne M (pw 2200)) 0 := by
  unfold rndI
  rw [signed_abs, signed_0, signed_0]
  have h0 : M = 0 → rne M (pw 2200) = 0 := by
    rintro rfl
    have := rne_exact 0 (pw 2200) (pw_pos _)
    rwa [Nat.zero_mul] at this
  cases s
  · simp only [Bool.false_eq_true, if_false]; rw [if_neg (by omega)]
  · simp only [if_true]
    split
    · rfl
    · rw [h0 (by omega)]; rfl

/-- math.RoundToEven -/
theorem fl_even {b : Nat} {v : Int} (h : Fl b v) : Fl (double.write ((double.read b).integral .even)) (rndI v * U) := by
  obtain ⟨s, m, e, h1, h2, h3, h4, rfl⟩ := h
  rw [h1]
  unfold Datum.integral
  simp only [cut_even, (shl_eq m e (by omega)).1]
  unfold Format.write
  simp only
  rw [nearest_eq _ _ _ (by omega), rndI_signed, show ((0 : Int) + 2200).toNat = 2200 by decide]
  have e1 : (signed s (rne (m * pw (e + 2200).toNat) (pw 2200)) 0 * U) = signed s (rne (m * pw (e + 2200).toNat) (pw 2200) * pw 2200) 0 := by
    unfold U; rw [signed_0, signed_0]; cases s <;> simp [Int.natCast_mul, Int.neg_mul]
  rw [e1]
  have hr : RN (signed s (rne (m * pw (e + 2200).toNat) (pw 2200) * pw 2200) 0) (double.word s (min (rg (rne (m * pw (e + 2200).toNat) (pw 2200) * pw 2200)) top)) := by
    refine ⟨s, by rw [signed_abs], fun h0 => ?_⟩
    rw [signed_0] at h0 ⊢
    generalize rne (m * pw (e + 2200).toNat) (pw 2200) * pw 2200 = M at *
    cases s
    · simp only [Bool.false_eq_true, if_false] at h0 ⊢
      rw [decide_eq_false (by omega)]
    · simp only [if_true] at h0 ⊢
      rw [decide_eq_true (by omega)]
  have hM : Rp (rne (m * pw (e + 2200).toNat) (pw 2200) * pw 2200) ∧ rne (m * pw (e + 2200).toNat) (pw 2200) * pw 2200 < pw 3224 := by
    by_cases c : 0 ≤ e
    · have e2 : pw (e + 2200).toNat = pw e.toNat * pw 2200 := by rw [← pw_add]; congr 1; omega
      rw [e2, ← Nat.mul_assoc, rne_exact _ _ (pw_pos _)]
      refine ⟨⟨m, e.toNat + 2200, by omega, by omega, by rw [Nat.mul_assoc, ← pw_add]⟩, ?_⟩
      rw [Nat.mul_assoc, ← pw_add]
      have : pw (e.toNat + 2200) ≤ pw 3171 := pw_le (by omega)
      calc m * pw (e.toNat + 2200) ≤ m * pw 3171 := Nat.mul_le_mul_left _ this
        _ < pw 53 * pw 3171 := Nat.mul_lt_mul_of_pos_right h4 (pw_pos _)
        _ = pw 3224 := by rw [← pw_add]
    · have h5 : rne (m * pw (e + 2200).toNat) (pw 2200) ≤ pw 53 := by
        refine rne_le_of (pw_pos _) (Nat.mul_le_mul (by omega) (pw_le (by omega)))
      refine ⟨⟨_, 2200, h5, by omega, rfl⟩, ?_⟩
      have h1 : pw 53 * pw 2200 < pw 3224 := by rw [← pw_add]; exact pw_lt (by omega)
      have h2 := Nat.mul_le_mul_right (pw 2200) h5
      omega
  exact hr.exact (by rw [signed_abs]; exact hM.1) (by rw [signed_abs]; exact hM.2)

/-- the whole number, cut towards zero -/
theorem fl_toInt {b : Nat} {v : Int} (h : Fl b v) : (double.read b).toInt .zero = some (v.tdiv U) := by
  obtain ⟨s, m, e, h1, h2, h3, h4, rfl⟩ := h
  rw [h1]
  unfold Datum.toInt Datum.integral
  simp only [cut_zero, (shl_eq m e (by omega)).2]
  congr 1
  unfold U
  rw [signed_0, signed_0]
  generalize m * pw (e + 2200).toNat = M
  generalize pw 2200 = B
  have : ((M / B : Nat) : Int) = (M : Int).tdiv B := Int.ofNat_tdiv M B
  cases s
  · simp only [Bool.false_eq_true, if_false]; exact this
  · simp only [if_true]; rw [Int.neg_tdiv, this]

/-! ### all words -/
theorem words (b : Nat) : (∃ v, Fl b v) ∨ (∃ s, double.read b = .infinity s) ∨ (∃ s t, double.read b = .nan s t) := by
  cases h : double.read b with
  | number s m e => exact .inl ⟨_, read_fl b h⟩
  | infinity s => exact .inr (.inl ⟨s, rfl⟩)
  | nan s t => exact .inr (.inr ⟨s, t, rfl⟩)

/-! ### what rounding to whole numbers gives -/
theorem U_eq : U = (pw 2200 : Nat) := rfl
/-- a half -/
def Hf : Int := (pw 2199 : Nat)
theorem U_two : U = 2 * Hf := by unfold U Hf; rw [show (2200 : Nat) = 2199 + 1 from rfl, pw_succ 2199]; omega
theorem Hf_pos : 0 < Hf := by unfold Hf; have := pw_pos 2199; omega
theorem rp_half (k : Int) (h : k.natAbs ≤ pw 53) : Rp (k * Hf).natAbs := ⟨k.natAbs, 2199, h, by omega, by unfold Hf; rw [Int.natAbs_mul, Int.natAbs_natCast]⟩
theorem half_lt {n : Int} (h : n.natAbs ≤ pw 53) : (n * Hf).natAbs < pw 3224 := by
  unfold Hf; rw [Int.natAbs_mul, Int.natAbs_natCast]
  have h1 : pw 53 * pw 2199 < pw 3224 := by rw [← pw_add]; exact pw_lt (by omega)
  have h2 := Nat.mul_le_mul_right (pw 2199) h
  omega

theorem rndI_near (v : Int) : 2 * (rndI v * U) ≤ 2 * v + U ∧ 2 * v ≤ 2 * (rndI v * U) + U := by
  have h := rne_near v.natAbs (pw 2200) (pw_pos _)
  unfold rndI U
  generalize pw 2200 = P at *
  have e : ((rne v.natAbs P * P : Nat) : Int) = (rne v.natAbs P : Int) * (P : Int) := by simp
  split
  · rw [Int.neg_mul, ← e]; omega
  · rw [← e]; omega
theorem rndI_int (n : Int) : rndI (n * U) = n := by
  have h : (n * U).natAbs = n.natAbs * pw 2200 := by unfold U; rw [Int.natAbs_mul, Int.natAbs_natCast]
  unfold rndI
  rw [h, rne_exact _ _ (pw_pos _)]
  have hU := U_pos
  have : (n * U < 0) ↔ n < 0 := ⟨fun h => by
    apply Int.lt_of_mul_lt_mul_right (a := U) (by simpa using h) (by omega), fun h => by
    have := Int.mul_lt_mul_of_pos_right h hU; simpa using this⟩
  split <;> omega
/-- what lies near a whole number is rounded to it -/
theorem rndI_of_near {v n : Int} (h1 : 2 * v < 2 * (n * U) + U) (h2 : 2 * (n * U) - U < 2 * v) : rndI v = n := by
  have h := rndI_near v
  have hU := U_pos
  have a1 : (rndI v - n) * U < 1 * U := by rw [Int.sub_mul]; omega
  have a2 : (-1) * U < (rndI v - n) * U := by rw [Int.sub_mul]; omega
  have b1 := Int.lt_of_mul_lt_mul_right a1 (by omega)
  have b2 := Int.lt_of_mul_lt_mul_right a2 (by omega)
  omega
theorem rndI_neg (v : Int) : rndI (-v) = -rndI v := by
  unfold rndI
  rw [Int.natAbs_neg]
  by_cases h : v = 0
  · subst h
    have := rne_exact 0 (pw 2200) (pw_pos _)
    rw [Nat.zero_mul] at this
    simp [this]
  · split <;> split <;> omega
/-- the whole part, and what is left -/
theorem rndI_parts (v : Int) : v.tdiv U * U + v.tmod U = v ∧ (0 ≤ v → 0 ≤ v.tmod U ∧ v.tmod U < U ∧ rndI v = v.tdiv U + if U < 2 * v.tmod U ∨ (U = 2 * v.tmod U ∧ v.tdiv U % 2 ≠ 0) then 1 else 0) := by
  refine ⟨by rw [Int.mul_comm]; exact Int.mul_tdiv_add_tmod v U, fun h => ?_⟩
  obtain ⟨n, rfl⟩ := Int.eq_ofNat_of_zero_le h
  have hU : U = ((pw 2200 : Nat) : Int) := rfl
  have hp := pw_pos 2200
  generalize pw 2200 = P at *
  have e1 : ((n / P : Nat) : Int) = (n : Int).tdiv U := by rw [hU]; exact Int.ofNat_tdiv n P
  have e2 : ((n % P : Nat) : Int) = (n : Int).tmod U := by rw [hU]; exact Int.ofNat_tmod n P
  have e3 : rndI (n : Int) = (rne n P : Nat) := by
    unfold rndI
    rw [if_neg (by omega)]
    have : pw 2200 = P := by have : ((pw 2200 : Nat) : Int) = (P : Int) := hU; omega
    rw [this]; simp
  rw [e3, ← e1, ← e2, hU]
  have hm := Nat.mod_lt n hp
  unfold rne
  generalize n / P = q at *
  generalize n % P = r at *
  refine ⟨by omega, by omega, ?_⟩
  by_cases c : P < 2 * r ∨ (P = 2 * r ∧ q % 2 = 1)
  · rw [if_pos c, if_pos (by omega)]; rfl
  · rw [if_neg c, if_neg (by omega)]; rfl

theorem RN.near {w : Int} {r : Nat} (h : RN w r) {v : Int} (hv : Fl r v) (k : Nat) (hw : w.natAbs < pw (k + 1)) (hk : 1178 ≤ k) : 2 * v ≤ 2 * w + (pw (k - 52) : Nat) ∧ 2 * w ≤ 2 * v + (pw (k - 52) : Nat) := by
  obtain ⟨s, rfl, hs⟩ := h
  by_cases ht : rg w.natAbs < top
  · rw [Nat.min_eq_left (by omega)] at hv
    have hv2 := Fl.uniq hv (fl_word s _ ht)
    have hn := rne_near w.natAbs (pw (lev w.natAbs)) (pw_pos _)
    rw [dec_rg] at hv2
    have hl : lev w.natAbs ≤ k - 52 := by have := log2_lt_of hw; unfold lev; omega
    have hp := pw_le hl
    generalize rne w.natAbs (pw (lev w.natAbs)) * pw (lev w.natAbs) = Q at *
    generalize pw (lev w.natAbs) = G at *
    generalize pw (k - 52) = T at *
    rw [signed_0] at hv2
    by_cases c0 : w = 0
    · subst c0
      simp only [Int.natAbs_zero] at hn
      cases s <;> simp at hv2 <;> omega
    · rw [hs c0] at hv2
      by_cases c2 : w < 0
      · simp only [c2, decide_true, if_true] at hv2; omega
      · simp only [c2, decide_false] at hv2; simp at hv2; omega
  · rw [Nat.min_eq_right (by omega)] at hv
    exact absurd hv (fl_top s v)

theorem div_nat {m n E F G P more : Nat} (hn : 0 < n) (hEG : E + G = F + more) (hPG : P + 1 + G = 2200) (c : Nat) :
    (c * (n * pw F) ≤ m * pw E → c * pw 2200 ≤ (2 * (m * pw more / n) + (m * pw more % n != 0).toNat) * pw P) ∧
    (m * pw E ≤ c * (n * pw F) → (2 * (m * pw more / n) + (m * pw more % n != 0).toNat) * pw P ≤ c * pw 2200) := by
  have e1 : pw E * pw G = pw F * pw more := by rw [← pw_add, ← pw_add, hEG]
  have e2 : pw 2200 = 2 * pw G * pw P := by rw [← hPG, pw_add, pw_succ P]; simp only [Nat.mul_comm, Nat.mul_left_comm, Nat.mul_assoc]
  have hF := pw_pos F
  have hG := pw_pos G
  have hd := Nat.div_add_mod (m * pw more) n
  have hm := Nat.mod_lt (m * pw more) hn
  have key : m * pw more * pw F = m * pw E * pw G := by rw [Nat.mul_assoc, Nat.mul_assoc, e1, Nat.mul_comm (pw more)]
  refine ⟨fun h => ?_, fun h => ?_⟩
  · have h1 : c * pw G * n ≤ m * pw more := by
      refine Nat.le_of_mul_le_mul_right (c := pw F) ?_ hF
      rw [key]
      calc c * pw G * n * pw F = c * (n * pw F) * pw G := by simp only [Nat.mul_comm, Nat.mul_left_comm, Nat.mul_assoc]
        _ ≤ _ := Nat.mul_le_mul_right _ h
    have h2 : c * pw G ≤ m * pw more / n := (Nat.le_div_iff_mul_le hn).2 h1
    rw [e2]
    calc c * (2 * pw G * pw P) = 2 * (c * pw G) * pw P := by simp only [Nat.mul_comm, Nat.mul_left_comm, Nat.mul_assoc]
      _ ≤ _ := Nat.mul_le_mul_right _ (by omega)
  · have h1 : m * pw more ≤ c * pw G * n := by
      refine Nat.le_of_mul_le_mul_right (c := pw F) ?_ hF
      rw [key]
      calc m * pw E * pw G ≤ c * (n * pw F) * pw G := Nat.mul_le_mul_right _ h
        _ = _ := by simp only [Nat.mul_comm, Nat.mul_left_comm, Nat.mul_assoc]
    rw [e2]
    have e3 : c * (2 * pw G * pw P) = 2 * (c * pw G) * pw P := by simp only [Nat.mul_comm, Nat.mul_left_comm, Nat.mul_assoc]
    rw [e3]
    refine Nat.mul_le_mul_right _ ?_
    have h2 : m * pw more / n ≤ c * pw G := Nat.div_le_of_le_mul (by rw [Nat.mul_comm n]; exact h1)
    generalize c * pw G = X at *
    generalize m * pw more = D at *
    by_cases z : D / n = X
    · have : D % n = 0 := by rw [z] at hd; rw [Nat.mul_comm] at hd; omega
      rw [this]; simp; omega
    · have : (D % n != 0).toNat ≤ 1 := by cases (D % n != 0) <;> simp
      omega

theorem rn_signed (s : Bool) (M : Nat) : RN (signed s M 0) (double.word s (min (rg M) top)) := by
  refine ⟨s, by rw [signed_abs], fun h0 => ?_⟩
  rw [signed_0] at h0 ⊢
  cases s
  · simp only [Bool.false_eq_true, if_false] at h0 ⊢
    rw [decide_eq_false (by omega)]
  · simp only [if_true] at h0 ⊢
    rw [decide_eq_true (by omega)]

/-- the quotient -/
theorem Fl.div {a b : Nat} {u v : Int} (h : Fl a u) (k : Fl b v) (hv : 0 < v) (hq : u.natAbs ≤ v.natAbs * pw 50) : ∃ r w, double.div a b = some r ∧ RN w r ∧ (∀ c : Int, c * v ≤ u → c * U ≤ w) ∧ (∀ c : Int, u ≤ c * v → w ≤ c * U) := by
  obtain ⟨s, m, e, h1, h2, h3, h4, rfl⟩ := h
  obtain ⟨t, n, f, k1, k2, k3, k4, rfl⟩ := k
  rw [signed_abs, signed_abs] at hq
  obtain rfl : t = false := by
    cases t
    · rfl
    · rw [signed_0, if_pos rfl] at hv; omega
  have hn : 0 < n := by
    apply Nat.pos_of_ne_zero; rintro rfl
    rw [signed_0] at hv; simp at hv
  unfold Format.div
  rw [h1, k1]
  unfold Datum.quotient
  simp only
  rw [if_neg (by omega)]
  simp only [Option.map_some, Bool.xor_false]
  unfold Format.write
  simp only [show double.fractionBits + 2 = 54 from rfl]
  have lm : m.log2 ≤ 52 := log2_lt_of h4
  have ln : n.log2 ≤ 52 := log2_lt_of k4
  rw [nearest_eq _ _ _ (by omega), Nat.shiftLeft_eq, show (2 : Nat) ^ (54 + n.log2 - m.log2) = pw (54 + n.log2 - m.log2) by unfold pw; rfl]
  refine ⟨_, _, rfl, rn_signed _ _, ?_⟩
  have hU : U = ((pw 2200 : Nat) : Int) := rfl
  simp only [signed_0, Bool.false_eq_true, if_false] at hv ⊢
  by_cases hm : m = 0
  · subst hm
    simp only [Nat.zero_mul, Nat.zero_div, Nat.zero_mod, Nat.mul_zero, Nat.zero_add, bne_self_eq_false, Bool.toNat_false, Int.natCast_zero, Int.neg_zero, ite_self] 
    have hUp := U_pos
    refine ⟨fun c hc => ?_, fun c hc => ?_⟩
    · have : c ≤ 0 := Int.le_of_mul_le_mul_right (a := ((n * pw (f + 2200).toNat : Nat) : Int)) (by omega) (by omega)
      exact Int.mul_nonpos_of_nonpos_of_nonneg this (by omega)
    · have : 0 ≤ c := Int.le_of_mul_le_mul_right (a := ((n * pw (f + 2200).toNat : Nat) : Int)) (by omega) (by omega)
      exact Int.mul_nonneg this (by omega)
  · have bm := log2_bound m (by omega)
    have bn := log2_bound n hn
    have hcmp : m.log2 + (e + 2200).toNat < n.log2 + 1 + (f + 2200).toNat + 50 := by
      apply Nat.lt_of_not_le; intro hh
      have q1 := pw_le hh
      have q2 : pw (m.log2 + (e + 2200).toNat) ≤ m * pw (e + 2200).toNat := by rw [pw_add]; exact Nat.mul_le_mul_right _ bm.1
      have q3 : n * pw (f + 2200).toNat * pw 50 < pw (n.log2 + 1 + (f + 2200).toNat + 50) := by
        rw [pw_add, pw_add]
        exact Nat.mul_lt_mul_of_pos_right (Nat.mul_lt_mul_of_pos_right bn.2 (pw_pos _)) (pw_pos _)
      omega
    have K := fun c => div_nat (m := m) (n := n) (E := (e + 2200).toNat) (F := (f + 2200).toNat) (G := 2199 - (e - f - ((54 + n.log2 - m.log2 : Nat) : Int) - 1 + 2200).toNat) (P := (e - f - ((54 + n.log2 - m.log2 : Nat) : Int) - 1 + 2200).toNat) (more := 54 + n.log2 - m.log2) hn (by omega) (by omega) c
    generalize (2 * (m * pw (54 + n.log2 - m.log2) / n) + (m * pw (54 + n.log2 - m.log2) % n != 0).toNat) * pw (e - f - ((54 + n.log2 - m.log2 : Nat) : Int) - 1 + 2200).toNat = Q at *
    generalize n * pw (f + 2200).toNat = V at *
    generalize m * pw (e + 2200).toNat = A at *
    have K2 : ∀ c : Int, 0 ≤ c → (c * V ≤ A → c * U ≤ Q) ∧ ((A : Int) ≤ c * V → (Q : Int) ≤ c * U) := by
      intro c hc
      obtain ⟨c, rfl⟩ := Int.eq_ofNat_of_zero_le hc
      have := K c
      rw [hU, ← Int.natCast_mul, ← Int.natCast_mul]
      omega
    have hUp := U_pos
    cases s
    · simp only [Bool.false_eq_true, if_false]
      refine ⟨fun c hc => ?_, fun c hc => ?_⟩
      · by_cases h0 : 0 ≤ c
        · exact (K2 c h0).1 hc
        · have : c * U ≤ 0 := Int.mul_nonpos_of_nonpos_of_nonneg (by omega) (by omega)
          omega
      · have : 0 ≤ c := Int.le_of_mul_le_mul_right (a := (V : Int)) (by omega) hv
        exact (K2 c this).2 hc
    · simp only [if_true]
      refine ⟨fun c hc => ?_, fun c hc => ?_⟩
      · have hc' : (A : Int) ≤ -c * V := by rw [Int.neg_mul]; omega
        have : 0 ≤ -c := Int.le_of_mul_le_mul_right (a := (V : Int)) (by omega) hv
        have := (K2 (-c) this).2 hc'
        rw [Int.neg_mul] at this; omega
      · by_cases h0 : 0 ≤ -c
        · have hc' : -c * V ≤ A := by rw [Int.neg_mul]; omega
          have := (K2 (-c) h0).1 hc'
          rw [Int.neg_mul] at this; omega
        · have : 0 ≤ c * U := Int.mul_nonneg (by omega) (by omega)
          omega
end Go.My.Fl
