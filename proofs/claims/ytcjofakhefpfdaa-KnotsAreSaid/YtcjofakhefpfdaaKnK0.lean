/- All knots in order: what its loops keep (lists). -/
import Derived.Test.YtcjofakhefpfdaaKnI
import Derived.Test.YtcjofakhefpfdaaKnF
import Derived.Test.YtcjofakhefpfdaaKnU2
namespace Go.Proofs.Ytcjofakhefpfdaa
open Go.RowKit Go.My Go.My.Hp Go.My.Kn Go.Maps
set_option linter.unusedSimpArgs false
set_option linter.unusedVariables false

theorem RdG.lt {w : World} {F : Nat → Prop} {A : Option Addr} {G : List (List Int)} (h : RdG w F A G) : RdG w (fun k => F k ∧ k < w.heap.size) A G := by
  obtain ⟨vs, hr, hE⟩ := h
  refine ⟨vs, hr.lt (by omega), fun i L hL => ?_⟩
  obtain ⟨A', c, h1, h2, h3⟩ := hE i L hL
  exact ⟨A', c, h1, h2.lt (by omega), h3⟩

/-! ### the found knots are set in their places -/
section
variable {Fd : List (List Nat)} {vs : List Value} {n i : Nat} {KV : List Value} {K : List Nat}
/-- two found knots have nothing in common -/
theorem fd_apart : ∀ {Fd : List (List Nat)}, Fd.flatten.Nodup → ∀ {t i : Nat} {K K' : List Nat} {x : Nat}, Fd[t]? = some K → Fd[i]? = some K' → x ∈ K → x ∈ K' → t = i
  | [], _, t, i, K, K', x, h1, _, _, _ => by simp at h1
  | L :: Fd, hnd, t, i, K, K', x, h1, h2, hx, hx' => by
    rw [List.flatten_cons, List.nodup_append] at hnd
    obtain ⟨_, hn2, hn3⟩ := hnd
    cases t with
    | zero =>
      cases i with
      | zero => rfl
      | succ i =>
        simp only [List.getElem?_cons_zero, List.getElem?_cons_succ] at h1 h2
        injection h1 with h1
        subst h1
        exact absurd rfl (hn3 x hx x (List.mem_flatten.2 ⟨K', List.mem_of_getElem? h2, hx'⟩))
    | succ t =>
      cases i with
      | zero =>
        simp only [List.getElem?_cons_zero, List.getElem?_cons_succ] at h1 h2
        injection h2 with h2
        subst h2
        exact absurd rfl (hn3 x hx' x (List.mem_flatten.2 ⟨K, List.mem_of_getElem? h1, hx⟩))
      | succ i =>
        simp only [List.getElem?_cons_succ] at h1 h2
        rw [fd_apart hn2 h1 h2 hx hx']
structure KP (n : Nat) (Fd : List (List Nat)) (vs : List Value) (i : Nat) (KV : List Value) : Prop where
  len : KV.length = n
  at_ : ∀ t K a, t < i → Fd[t]? = some K → K.head? = some a → KV[a]? = vs[t]?
  no : ∀ a, a < n → (∀ t K, t < i → Fd[t]? = some K → K.head? ≠ some a) → KV[a]? = some (.slice none 0 0)
theorem KP.zero : KP n Fd vs 0 (zrow n (.slice none 0 0)) :=
  ⟨by simp [zrow], fun t K a h => absurd h (Nat.not_lt_zero _), fun a ha _ => by simp [zrow, ha]⟩
theorem KP.step (h : KP n Fd vs i KV) (hnd : Fd.flatten.Nodup) {a : Nat} {v : Value} (hK : Fd[i]? = some K) (ha : K.head? = some a) (han : a < n) (hv : vs[i]? = some v) : KP n Fd vs (i + 1) (KV.set a v) := by
  have haK : a ∈ K := List.mem_of_mem_head? ha
  refine ⟨by rw [List.length_set]; exact h.len, fun t L b ht hL hb => ?_, fun b hb hno => ?_⟩
  · rcases Nat.lt_succ_iff_lt_or_eq.1 ht with ht | rfl
    · have hne : b ≠ a := fun e => by
        subst e
        have := fd_apart hnd hL hK (List.mem_of_mem_head? hb) haK
        omega
      rw [List.getElem?_set_ne (fun e => hne e.symm)]
      exact h.at_ t L b ht hL hb
    · rw [hK] at hL
      injection hL with hL
      subst hL
      rw [ha] at hb
      injection hb with hb
      subst hb
      rw [List.getElem?_set_self (by rw [h.len]; exact han), hv]
  · have hne : b ≠ a := fun e => by subst e; exact hno i K (Nat.lt_succ_self i) hK ha
    rw [List.getElem?_set_ne (fun e => hne e.symm)]
    exact h.no b hb fun t L ht hL => hno t L (Nat.lt_succ_of_lt ht) hL
/-- the names that are written -/
def NP (Fd : List (List Nat)) (nmf : Nat → Nat) (i : Nat) (f : Nat → Nat) : Prop := ∀ t K, t < i → Fd[t]? = some K → ∀ x ∈ K, f x = nmf x
theorem NP.zero {nmf f : Nat → Nat} : NP Fd nmf 0 f := fun t K h => absurd h (Nat.not_lt_zero _)
theorem NP.up {nmf f : Nat → Nat} {a : Nat} (h : NP Fd nmf i f) : NP Fd nmf i (upN f a (nmf a)) := fun t K ht hK x hx => by
  by_cases e : x = a
  · rw [e, upN_at]
  · rw [upN_ne _ _ e]; exact h t K ht hK x hx
theorem NP.next {nmf f : Nat → Nat} (h : NP Fd nmf i f) (hK : Fd[i]? = some K) (hf : ∀ x ∈ K, f x = nmf x) : NP Fd nmf (i + 1) f := fun t L ht hL x hx => by
  rcases Nat.lt_succ_iff_lt_or_eq.1 ht with ht | rfl
  · exact h t L ht hL x hx
  · rw [hK] at hL; injection hL with hL; subst hL; exact hf x hx
end
theorem ns_congr {f g : Nat → Nat} {n : Nat} (h : ∀ k, k < n → f k = g k) : ns f n = ns g n := by
  unfold ns
  exact List.map_congr_left fun k hk => by rw [h k (List.mem_range.1 hk)]
/-- behind all knots: each name has its knot in its place -/
theorem kp_all {G : List (List Int)} {Fd : List (List Nat)} {vs KV : List Value} {w : World} {KB : Nat → Prop} (h : KP G.length Fd vs Fd.length KV) (hk : ∀ K ∈ Fd, IsKnot (gn G) K) (hall : ∀ x, x < G.length ↔ ∃ K ∈ Fd, x ∈ K)
    (hrow : ∀ (i : Nat) (K : List Nat), Fd[i]? = some K → ∃ A c, vs[i]? = some (.slice A K.length c) ∧ Rd w KB 1 A K.length (nl K) ∧ K.length ≤ c ∧ c ≤ maxLen) :
    ∃ kv : Nat → Value, KV = (List.range G.length).map kv ∧ (∀ a, a < G.length → nm G.length (via' G) a = a → ∃ (A : Addr) (c : Nat), kv a = .slice (some A) (cls G.length (via' G) a).length c ∧ Rd w KB 1 (some A) (cls G.length (via' G) a).length (nl (cls G.length (via' G) a)) ∧ (cls G.length (via' G) a).length ≤ c ∧ c ≤ maxLen) ∧
      (∀ a, a < G.length → nm G.length (via' G) a ≠ a → kv a = .slice none 0 0) := by
  have hmem : ∀ {t : Nat} {K : List Nat}, Fd[t]? = some K → K ∈ Fd := fun h => List.mem_of_getElem? h
  have hlt : ∀ K ∈ Fd, ∀ y ∈ K, y < G.length := fun K hK y hy => (hall y).2 ⟨K, hK, hy⟩
  refine ⟨fun a => KV.getD a (.slice none 0 0), ?_, fun a ha hn => ?_, fun a ha hn => ?_⟩
  · apply List.ext_getElem?
    intro k
    by_cases hk2 : k < G.length
    · rw [List.getElem?_map, List.getElem?_range hk2]
      have : k < KV.length := by rw [h.len]; exact hk2
      simp [List.getElem?_eq_getElem this]
    · rw [List.getElem?_eq_none (by rw [h.len]; omega), List.getElem?_eq_none (by simp; omega)]
  · obtain ⟨K, hK, haK⟩ := (hall a).1 ha
    obtain ⟨t, ht, e⟩ := List.mem_iff_getElem.1 hK
    have hKt : Fd[t]? = some K := by rw [List.getElem?_eq_getElem ht, e]
    obtain ⟨a1, r, e1, e2⟩ := knot_head (hk K hK) (hlt K hK)
    obtain ⟨e3, e4⟩ := e2 a haK
    have ea : a1 = a := e3.symm.trans hn
    subst ea
    obtain ⟨A, c, r1, r2, r3, r4⟩ := hrow t K hKt
    have h1 := h.at_ t K a1 ht hKt (by rw [e1]; rfl)
    rw [r1] at h1
    obtain ⟨ad, hA, _⟩ := r2.2 (by rw [e1]; simp)
    subst hA
    rw [← e4]
    exact ⟨ad, c, by simp [h1], r2, r3, r4⟩
  · have h1 := h.no a ha fun t K ht hK e => by
      obtain ⟨a1, r, e1, e2⟩ := knot_head (hk K (hmem hK)) (hlt K (hmem hK))
      rw [e1] at e
      injection e with e
      subst e
      exact hn (e2 a1 (by rw [e1]; exact List.mem_cons_self)).1
    simp [h1]
end Go.Proofs.Ytcjofakhefpfdaa
