/- The document's own chart, a list in order: its state in memory, and the mathematics of it. -/
import Derived.Test.YtjbeaoabhhaiiaaGreatChartD
import Derived.Test.YtjbeaoabhhaiiaaGreatRefName
import Derived.Test.YtjbeaoabhhaiiaaGreatCoinsRefT2
import Derived.Sort.Walk0
namespace Go.Proofs.YtjbeaoabhhaiiaaGreat
open Go.RowKit Go.My Go.Maps
set_option linter.unusedSimpArgs false
set_option linter.unusedVariables false
attribute [local go_sem ↓] Go.wp_at_zero Go.wp_at_succ

/-! ### lists -/

theorem key_before (a b : Ac) : a.key.before b.key = bytesBefore a.name b.name := rfl
/-- an account that is there is put where it stands -/
theorem put_set : ∀ (S : List Ac) (k : Nat) (hk : k < S.length) (b : Ac), Rise S → S[k].name = b.name → putA b S = S.set k b
  | c :: r, 0, _, b, hr, hn => by
    obtain ⟨h1, h2⟩ := List.pairwise_cons.1 hr
    simp only [List.getElem_cons_zero] at hn
    have hkey : b.key = c.key := by unfold Ac.key; rw [hn]
    unfold putA
    have hf : (c :: r).filter (fun d => !d.key.sameKey b.key) = r := by
      rw [List.filter_cons, if_neg (by
        show ¬ (!(c.name == b.name)) = true
        rw [hn]; simp), List.filter_eq_self.2]
      intro d hd
      show (!(d.name == b.name)) = true
      have := h1 d hd
      rw [← hn]
      cases hq : d.name == c.name
      · rfl
      · rw [key_before, beq_iff_eq.1 hq, WideAt.bytes_irrefl] at this
        cases this
    rw [hf]
    cases r with
    | nil => rfl
    | cons d t =>
      have := h1 d List.mem_cons_self
      unfold insA
      rw [if_pos (by rw [hkey]; exact this)]
      rfl
  | c :: r, k + 1, hk, b, hr, hn => by
    obtain ⟨h1, h2⟩ := List.pairwise_cons.1 hr
    simp only [List.getElem_cons_succ] at hn
    have hk' : k < r.length := by simpa using hk
    have hcb := h1 _ (List.getElem_mem hk')
    have hcb' : bytesBefore c.name b.name = true := by rw [← hn]; exact hcb
    have hne : c.name ≠ b.name := fun h => by rw [h, WideAt.bytes_irrefl] at hcb'; cases hcb'
    have hnb : bytesBefore b.name c.name = false := by
      cases hq : bytesBefore b.name c.name
      · rfl
      · have := WideShapes.bytes_trans _ _ _ hcb' hq
        rw [WideAt.bytes_irrefl] at this
        cases this
    have ih := put_set r k hk' b h2 hn
    unfold putA at ih ⊢
    rw [List.filter_cons, if_pos (by
      show (!(c.name == b.name)) = true
      simp [hne])]
    unfold insA
    rw [if_neg (by rw [key_before, hnb]; decide), ih]
    rfl
/-- where a new account is put -/
theorem ins_at : ∀ (S : List Ac) (a : Ac) (k : Nat), k ≤ S.length → Rise S → (∀ i (h : i < S.length), k ≤ i → bytesBefore a.name S[i].name = true) → (∀ (h : 0 < k) (h2 : k - 1 < S.length), bytesBefore a.name S[k - 1].name = false) →
    insA a S = S.take k ++ a :: S.drop k
  | [], a, k, hk, _, _, _ => by
    have : k = 0 := by simpa using hk
    subst this
    rfl
  | c :: r, a, 0, _, hr, h1, _ => by
    have := h1 0 (by simp) (Nat.le_refl _)
    unfold insA
    rw [if_pos (by rw [key_before]; exact this)]
    rfl
  | c :: r, a, k + 1, hk, hr, h1, h2 => by
    obtain ⟨g1, g2⟩ := List.pairwise_cons.1 hr
    have hk' : k ≤ r.length := by simpa using hk
    have hc : bytesBefore a.name c.name = false := by
      cases k with
      | zero => exact h2 (by omega) (by simp)
      | succ j =>
        cases hq : bytesBefore a.name c.name
        · rfl
        · have h3 := h2 (by omega) (by simp; omega)
          have hj : j < r.length := by omega
          have h4 : bytesBefore c.name r[j].name = true := g1 _ (List.getElem_mem hj)
          have h5 := WideShapes.bytes_trans _ _ _ hq h4
          simp only [Nat.add_sub_cancel, List.getElem_cons_succ] at h3
          rw [h5] at h3
          cases h3
    have ih := ins_at r a k hk' g2 (fun i h hki => by have := h1 (i + 1) (by simp; omega) (by omega); simpa using this) (fun h h3 => by
      have := h2 (by omega) (by simp; omega)
      cases k with
      | zero => omega
      | succ j => simpa using this)
    unfold insA
    rw [if_neg (by rw [key_before, hc]; decide), ih]
    rfl
theorem put_ins {S : List Ac} {a : Ac} (h : getA S a.name = none) : putA a S = insA a S := by
  unfold putA
  congr 1
  refine List.filter_eq_self.2 fun b hb => ?_
  show (!(b.name == a.name)) = true
  have := getA_none h b hb
  simp [this]

/-- a cell of an account is another one -/
theorem acs_set : ∀ (S : List Ac) (k j : Nat) (hk : k < S.length) (b : Ac) (u : Value), j < 4 → acC b = (acC S[k]).set j u → (acs S).set (k * 4 + j) u = acs (S.set k b)
  | c :: r, 0, j, _, b, u, hj, h => by
    show (acC c ++ acs r).set (0 * 4 + j) u = acC b ++ acs r
    rw [List.set_append_left _ _ (by simp [acC]; omega), Nat.zero_mul, Nat.zero_add]
    simp only [List.getElem_cons_zero] at h
    rw [h]
  | c :: r, k + 1, j, hk, b, u, hj, h => by
    show (acC c ++ acs r).set ((k + 1) * 4 + j) u = acC c ++ acs (r.set k b)
    rw [List.set_append_right _ _ (by simp [acC]; omega)]
    congr 1
    rw [← acs_set r k j (by simpa using hk) b u hj (by simpa using h)]
    congr 1
    simp [acC]
    omega

/-! ### memory -/

theorem own_set {w : World} {e : TypeId} {size n g c : Nat} {xs : List Value} (h : Own w e size (.slice (some ⟨g, 0, none⟩) n c) n xs) (j : Nat) (hj : j < n * size) (hn : 0 < n) (u : Value) :
    Own (w.setCell ⟨g, j, none⟩ u) e size (.slice (some ⟨g, 0, none⟩) n c) n (xs.set j u) ∧ (∃ y, w.cell? ⟨g, j, none⟩ = some y) ∧ w.frozen? ⟨g, j, none⟩ = false := by
  have hl := h.1
  obtain ⟨g', c', cur, hv, hg, h1, h2, h3, h4⟩ := h.formPos hn
  injection hv with hA _ hc
  injection hA with hA
  injection hA with hg'
  subst hg' hc
  have hcur : j < cur.size := by
    have : n * size ≤ c * size := Nat.mul_le_mul_right _ h1
    omega
  refine ⟨⟨by simpa using hl, .inr ⟨g, c, cur.setIfInBounds j u, rfl, hg.set_ j u, h1, h2, by simpa using h3, ?_⟩⟩, ⟨cur[j], by rw [hg.cell]; simp [hcur]⟩, hg.frozen j⟩
  rw [← h4]
  simp only [Array.toList_setIfInBounds]
  rw [List.take_set]

/-- the document's chart at q holds the list S -/
def RfS (w : World) (q : Nat) (S : List Ac) : Prop := ∃ A c, Blk w q 122 #[.slice A S.length c] ∧ S.length ≤ c ∧ c ≤ maxLen ∧ Own w 80 4 (.slice A S.length c) S.length (acs S)
section
variable {w w' : World} {q : Nat} {S : List Ac}
theorem RfS.lt (h : RfS w q S) : q < w.heap.size := by obtain ⟨A, c, hb, _⟩ := h; exact hb.lt
theorem RfS.fr {F : Nat → Prop} (h : RfS w q S) (hf : Fr F w w') (hq : ¬ F q) (hn : ∀ k, F k → ∀ cur, ¬ Blk w k 80 cur) : RfS w' q S := by
  obtain ⟨A, c, hb, h1, h2, ho⟩ := h
  exact ⟨A, c, hb.fr hf hq, h1, h2, ho.fr hf fun k hk hF => by
    obtain ⟨cur, hc⟩ := ho.blk k hk
    exact hn k hF cur hc⟩
theorem RfS.no (h : RfS w q S) (hf : Fr No w w') : RfS w' q S := h.fr hf (fun h => h) (fun _ h => False.elim h)
end

/-! ### Name, Ahead, At, Free -/

end Go.Proofs.YtjbeaoabhhaiiaaGreat
