/- What package frame answers, as functions of lists: of no program. -/
import Derived.Test.YtjfbpnhkdlbinaaCrc
namespace Go.My
set_option linter.unusedSimpArgs false
set_option linter.unusedVariables false

def le2 (n : Nat) : List UInt8 := [UInt8.ofNat (n % 256), UInt8.ofNat (n / 256)]
/-- a frame -/
def frm (d : List UInt8) : List UInt8 := le2 d.length ++ (le4 (ones ^^^ crc ones d) ++ d)
def OkLen (d : List UInt8) : Prop := 1 ≤ d.length ∧ d.length ≤ 4096
instance (d : List UInt8) : Decidable (OkLen d) := by unfold OkLen; infer_instance
def size2 (a b : UInt8) : Nat := a.toNat + 256 * b.toNat
def val4 (a b c d : UInt8) : Nat := a.toNat + 256 * b.toNat + 65536 * c.toNat + 16777216 * d.toNat

/-- the data of the frame that bytes begin with: what is wrong, and the data -/
def nextF (b : List UInt8) : Nat × List UInt8 :=
  match b with
  | b0 :: b1 :: t =>
    if size2 b0 b1 < 1 ∨ 4096 < size2 b0 b1 then (3, []) else
    match t with
    | c0 :: c1 :: c2 :: c3 :: r =>
      if r.length < size2 b0 b1 then (4, []) else if sumF (r.take (size2 b0 b1)) = val4 c0 c1 c2 c3 then (0, r.take (size2 b0 b1)) else (3, [])
    | _ => (4, [])
  | _ => (4, [])

theorem frm_length (d : List UInt8) : (frm d).length = 6 + d.length := by simp [frm, le2, le4]; omega
theorem u8_of (n : Nat) : (UInt8.ofNat n).toNat = n % 256 := by simp
theorem size2_le2 (n : Nat) (h : n ≤ 4096) : size2 (UInt8.ofNat (n % 256)) (UInt8.ofNat (n / 256)) = n := by
  unfold size2
  rw [u8_of, u8_of]
  omega
theorem val4_le4 (v : BitVec 32) : val4 (UInt8.ofNat (v.toNat % 256)) (UInt8.ofNat (v.toNat / 256 % 256)) (UInt8.ofNat (v.toNat / 65536 % 256)) (UInt8.ofNat (v.toNat / 16777216)) = v.toNat := by
  have hv := v.isLt
  unfold val4
  rw [u8_of, u8_of, u8_of, u8_of]
  omega
theorem next_frm (d rest : List UInt8) (h : OkLen d) : nextF (frm d ++ rest) = (0, d) := by
  obtain ⟨h1, h2⟩ := h
  have e : frm d ++ rest = UInt8.ofNat (d.length % 256) :: UInt8.ofNat (d.length / 256) :: (le4 (ones ^^^ crc ones d) ++ (d ++ rest)) := by simp [frm, le2]
  rw [e]
  unfold nextF le4
  simp only [List.cons_append, List.nil_append, size2_le2 d.length h2]
  rw [if_neg (by omega), if_neg (by simp), List.take_left, val4_le4]
  exact if_pos rfl
theorem next_nil : nextF [] = (4, []) := rfl
theorem next_torn (d : List UInt8) (k : Nat) (h : OkLen d) (hk : k < (frm d).length) : nextF ((frm d).take k) = (4, []) := by
  obtain ⟨h1, h2⟩ := h
  rw [frm_length] at hk
  have e : frm d = UInt8.ofNat (d.length % 256) :: UInt8.ofNat (d.length / 256) :: (le4 (ones ^^^ crc ones d) ++ d) := by simp [frm, le2]
  rw [e]
  match k, hk with
  | 0, _ => rfl
  | 1, _ => rfl
  | k + 2, hk =>
    unfold nextF le4
    simp only [List.take_succ_cons, size2_le2 d.length h2]
    rw [if_neg (by omega)]
    match k, hk with
    | 0, _ => rfl
    | 1, _ => rfl
    | 2, _ => rfl
    | 3, _ => rfl
    | k + 4, hk =>
      simp only [List.cons_append, List.nil_append, List.take_succ_cons]
      rw [if_pos (by rw [List.length_take]; omega)]
/-- what is read is framed as just these bytes -/
theorem le4_of (a b c d : UInt8) (v : BitVec 32) (h : v.toNat = val4 a b c d) : le4 v = [a, b, c, d] := by
  have ha := a.toNat_lt
  have hb := b.toNat_lt
  have hc := c.toNat_lt
  have hd := d.toNat_lt
  unfold val4 at h
  have e : ∀ (x : UInt8) (n : Nat), n % 256 = x.toNat → UInt8.ofNat n = x := fun x n hn => by
    apply UInt8.toNat_inj.1
    rw [u8_of, hn]
  unfold le4
  rw [h, e a _ (by omega), e b _ (by omega), e c _ (by omega), e d _ (by omega)]
theorem le2_of (a b : UInt8) : le2 (size2 a b) = [a, b] := by
  have ha := a.toNat_lt
  have hb := b.toNat_lt
  have e : ∀ (x : UInt8) (n : Nat), n % 256 = x.toNat → UInt8.ofNat n = x := fun x n hn => by
    apply UInt8.toNat_inj.1
    rw [u8_of, hn]
  unfold le2 size2
  rw [e a _ (by omega), e b _ (by omega)]
theorem next_only (b d : List UInt8) (h : nextF b = (0, d)) : OkLen d ∧ b = frm d ++ b.drop (6 + d.length) := by
  match b with
  | [] => simp [nextF] at h
  | [_] => simp [nextF] at h
  | b0 :: b1 :: t =>
    unfold nextF at h
    simp only at h
    by_cases h1 : size2 b0 b1 < 1 ∨ 4096 < size2 b0 b1
    · rw [if_pos h1] at h; simp at h
    · rw [if_neg h1] at h
      match t with
      | [] => simp at h
      | [_] => simp at h
      | [_, _] => simp at h
      | [_, _, _] => simp at h
      | c0 :: c1 :: c2 :: c3 :: r =>
        simp only at h
        by_cases h2 : r.length < size2 b0 b1
        · rw [if_pos h2] at h; simp at h
        · rw [if_neg h2] at h
          by_cases h3 : sumF (r.take (size2 b0 b1)) = val4 c0 c1 c2 c3
          · rw [if_pos h3] at h
            simp only [Prod.mk.injEq, true_and] at h
            have hl : (r.take (size2 b0 b1)).length = size2 b0 b1 := by rw [List.length_take]; omega
            subst h
            refine ⟨⟨by omega, by omega⟩, ?_⟩
            unfold frm
            rw [le4_of c0 c1 c2 c3 _ h3, hl, le2_of]
            have e : 6 + size2 b0 b1 = size2 b0 b1 + 6 := by omega
            rw [e]
            simp
          · rw [if_neg h3] at h; simp at h
theorem next_err (b : List UInt8) : (nextF b).1 = 0 ∨ ((nextF b).1 = 3 ∨ (nextF b).1 = 4) ∧ (nextF b).2 = [] := by
  unfold nextF
  repeat' split
  all_goals simp

/-- the frames of bytes: their data, how many bytes they have, what is wrong behind -/
def scanF : Nat → List UInt8 → List (List UInt8) × Nat × Nat
  | 0, _ => ([], 0, 0)
  | f + 1, b =>
    if b = [] then ([], 0, 0) else
    if (nextF b).1 = 0 then
      let r := scanF f (b.drop (6 + (nextF b).2.length))
      ((nextF b).2 :: r.1, 6 + (nextF b).2.length + r.2.1, r.2.2)
    else ([], 0, (nextF b).1)
def scan (b : List UInt8) : List (List UInt8) × Nat × Nat := scanF b.length b

theorem scanF_more (f : Nat) : ∀ (g : Nat) (b : List UInt8), b.length ≤ f → b.length ≤ g → scanF f b = scanF g b := by
  induction f with
  | zero =>
    intro g b hf hg
    have : b = [] := List.length_eq_zero_iff.1 (by omega)
    subst this
    cases g <;> simp [scanF]
  | succ f ih =>
    intro g b hf hg
    cases g with
    | zero =>
      have : b = [] := List.length_eq_zero_iff.1 (by omega)
      subst this
      simp [scanF]
    | succ g =>
      unfold scanF
      by_cases hb : b = []
      · rw [if_pos hb, if_pos hb]
      · rw [if_neg hb, if_neg hb]
        have hl : 0 < b.length := List.length_pos_iff.2 hb
        have := ih g (b.drop (6 + (nextF b).2.length)) (by rw [List.length_drop]; omega) (by rw [List.length_drop]; omega)
        rw [this]
theorem scan_nil : scan [] = ([], 0, 0) := rfl
theorem scan_step (b : List UInt8) (hb : b ≠ []) : scan b = if (nextF b).1 = 0 then ((nextF b).2 :: (scan (b.drop (6 + (nextF b).2.length))).1, 6 + (nextF b).2.length + (scan (b.drop (6 + (nextF b).2.length))).2.1, (scan (b.drop (6 + (nextF b).2.length))).2.2) else ([], 0, (nextF b).1) := by
  have hl : 0 < b.length := List.length_pos_iff.2 hb
  obtain ⟨n, hn⟩ : ∃ n, b.length = n + 1 := ⟨b.length - 1, by omega⟩
  unfold scan
  rw [hn]
  conv => lhs; unfold scanF
  rw [if_neg hb]
  have := scanF_more n (b.drop (6 + (nextF b).2.length)).length (b.drop (6 + (nextF b).2.length)) (by rw [List.length_drop]; omega) (Nat.le_refl _)
  rw [this]
/-- frames, one behind the other -/
def wrapF (l : List (List UInt8)) : List UInt8 := l.flatMap frm
theorem wrapF_cons (d : List UInt8) (l : List (List UInt8)) : wrapF (d :: l) = frm d ++ wrapF l := by simp [wrapF]
theorem scan_frm (d rest : List UInt8) (h : OkLen d) : scan (frm d ++ rest) = (d :: (scan rest).1, 6 + d.length + (scan rest).2.1, (scan rest).2.2) := by
  have hl := frm_length d
  rw [scan_step _ (by intro h0; have := congrArg List.length h0; simp at this; rw [this.1] at hl; simp at hl; omega), next_frm d rest h, if_pos rfl]
  simp only
  rw [← hl, List.drop_left, hl]
theorem scan_wrap (l : List (List UInt8)) (rest : List UInt8) (h : ∀ d ∈ l, OkLen d) : scan (wrapF l ++ rest) = (l ++ (scan rest).1, (wrapF l).length + (scan rest).2.1, (scan rest).2.2) := by
  induction l with
  | nil => simp [wrapF]
  | cons d l ih =>
    have ih' := ih (fun x hx => h x (List.mem_cons_of_mem _ hx))
    rw [wrapF_cons, List.append_assoc, scan_frm d _ (h d List.mem_cons_self), ih']
    simp [frm_length]
    omega
theorem scan_torn (d : List UInt8) (k : Nat) (h : OkLen d) (hk : k < (frm d).length) (h0 : 0 < k) : scan ((frm d).take k) = ([], 0, 4) := by
  rw [scan_step _ (by intro he; have := congrArg List.length he; rw [List.length_take] at this; simp at this; rcases this with h1 | h1 <;> simp_all), next_torn d k h hk]
  rfl
end Go.My
