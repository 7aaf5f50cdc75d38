/- What holds of a chart's accounts. What the laws on charts share: Same, early, scripts. Accounts, together. -/
import Derived.Test.YtkkhdjchfhmliaaGreatMCB
import Derived.Deep.QuietTactic
import Derived.BigQuiet
namespace Go.Proofs.YtkkhdjchfhmliaaGreat
open Go.RowKit Go.My Go.Maps
set_option linter.unusedSimpArgs false
set_option linter.unusedVariables false

/-- what holds of a chart's accounts -/
structure Inv (S : List Ac) : Prop where
  ok : OkS S
  nm : NmS S
  len : S.length ≤ 12
  rise : Rise S

theorem mem_putA {a b : Ac} {S : List Ac} (h : b ∈ putA a S) : b = a ∨ b ∈ S := by
  unfold putA at h
  rcases (mem_insA a b _).1 h with h | h
  · exact .inl h
  · exact .inr (List.mem_filter.1 h).1
theorem Inv.put {S : List Ac} (h : Inv S) (a : Ac) (ho : OkA a) (hn : a.name.length ≤ 8) (hl : (getA S a.name).isSome ∨ S.length < 12) : Inv (putA a S) :=
  ⟨fun b hb => by
    rcases mem_putA hb with rfl | hb
    · exact ho
    · exact h.ok b hb, fun b hb => by
    rcases mem_putA hb with rfl | hb
    · exact hn
    · exact h.nm b hb, by
    rw [length_put a S h.rise]
    have := h.len
    split
    · exact this
    · rename_i hne
      rcases hl with hl | hl
      · exact absurd hl hne
      · omega, rise_put a S h.rise⟩
theorem Inv.nil : Inv [] := ⟨fun _ h => (nomatch h), fun _ h => (nomatch h), Nat.zero_le _, List.Pairwise.nil⟩

theorem inv_open {S : List Ac} (h : Inv S) (nm : List UInt8) (lim : Int) (hl : In64 lim) : Inv (openS S nm lim) := by
  unfold openS
  by_cases h0 : openE S nm lim = 0
  · rw [if_pos h0]
    unfold openE at h0
    split at h0
    · cases h0
    · rename_i h1
      split at h0
      · cases h0
      · split at h0
        · cases h0
        · rename_i h3
          have hlim : ¬ lim < 0 := fun h => h1 (.inr h)
          have hnb : nameB nm = true := by
            cases hb : nameB nm
            · exact absurd (.inl hb) h1
            · rfl
          unfold In64 at hl
          refine h.put ⟨nm, 0, 0, lim⟩ ⟨by unfold In64; simp, by simp only; omega, by simp only; omega⟩ ?_ (.inr (by omega))
          unfold nameB at hnb
          simp only [Bool.and_eq_true, decide_eq_true_eq] at hnb
          simp only
          omega
  · rw [if_neg h0]
    exact h
theorem inv_act {S : List Ac} (h : Inv S) (f : Ac → Int) (g : Ac → Ac) (nm : List UInt8) (hg : ∀ a, OkA a → f a = 0 → OkA (g a)) (hn : ∀ a, (g a).name = a.name) : Inv (actS f g S nm) := by
  unfold actS
  cases hq : getA S nm with
  | none => exact h
  | some a =>
    simp only
    obtain ⟨hm, hnm⟩ := getA_some hq
    by_cases h0 : f a = 0
    · rw [if_pos h0]
      refine h.put _ (hg a (h.ok a hm) h0) (by rw [hn]; exact h.nm a hm) (.inl ?_)
      rw [hn, hnm, hq]
      rfl
    · rw [if_neg h0]
      exact h
theorem ok_give (x : Int) (a : Ac) (h : OkA a) (h0 : giveE a x = 0) : OkA (giveA a x) := by
  unfold giveA
  rw [if_pos h0]
  unfold giveE at h0
  split at h0
  · rename_i hin
    exact ⟨hin, h.2⟩
  · cases h0
theorem ok_aside (x : Int) (a : Ac) (h : OkA a) (h0 : asideE a x = 0) : OkA (asideA a x) := by
  unfold asideA
  rw [if_pos h0]
  unfold asideE at h0
  split at h0
  · rename_i hin
    split at h0
    · cases h0
    · split at h0
      · cases h0
      · rename_i hneg
        unfold In64 at hin
        exact ⟨h.1, by simp only; omega, h.2.2⟩
  · cases h0
end Go.Proofs.YtkkhdjchfhmliaaGreat

namespace Go.Proofs.YtkkhdjchfhmliaaGreat
open Go.RowKit Go.My Go.Maps
set_option linter.unusedSimpArgs false
set_option linter.unusedVariables false
attribute [local go_sem ↓] Go.wp_at_zero Go.wp_at_succ

instance : DecidableEq Ac := fun a b =>
  if h : a.name = b.name ∧ a.hv = b.hv ∧ a.st = b.st ∧ a.lim = b.lim then isTrue (Ac.ext_ h.1 h.2.1 h.2.2.1 h.2.2.2) else isFalse fun e => h (by subst e; exact ⟨rfl, rfl, rfl, rfl⟩)

theorem acs_get (S : List Ac) : ∀ (k i : Nat) (hk : k < S.length), i < 4 → (acs S)[k * 4 + i]? = (acC S[k])[i]? := by
  induction S with
  | nil => intro k i hk; simp at hk
  | cons a S ih =>
    intro k i hk hi
    show (acC a ++ acs S)[k * 4 + i]? = _
    cases k with
    | zero => rw [List.getElem?_append_left (by simp [acC]; omega)]; simp
    | succ k =>
      rw [List.getElem?_append_right (by simp [acC]; omega)]
      have := ih k i (by simp at hk; omega) hi
      simp only [List.getElem_cons_succ]
      rw [← this]
      congr 1
      simp [acC]
      omega
theorem acs_at {w : World} {F : Nat → Prop} {A : Option Addr} {S : List Ac} (h : Rd w F 4 A S.length (acs S)) (k : Nat) (hk : k < S.length) :
    ∃ ad, A = some ad ∧ F ad.block ∧ w.cell? (ad.add (k * 4)) = some (.string ⟨S[k].name.toArray⟩) ∧ w.cell? ⟨(ad.add (k * 4)).block, (ad.add (k * 4)).off + 1, none⟩ = some (.int .i64 S[k].hv) ∧
      w.cell? ⟨(ad.add (k * 4)).block, (ad.add (k * 4)).off + 2, none⟩ = some (.int .i64 S[k].st) ∧ w.cell? ⟨(ad.add (k * 4)).block, (ad.add (k * 4)).off + 3, none⟩ = some (.int .i64 S[k].lim) := by
  obtain ⟨ad, rfl, hF, hc⟩ := h.2 (by omega)
  refine ⟨ad, rfl, hF, hc (k * 4) _ (by have := acs_get S k 0 hk (by omega); rw [Nat.add_zero] at this; rw [this]; rfl), ?_, ?_, ?_⟩
  · rw [← add_lits ad (k * 4) 1 (by omega)]
    exact hc _ _ (by rw [acs_get S k 1 hk (by omega)]; rfl)
  · rw [← add_lits ad (k * 4) 2 (by omega)]
    exact hc _ _ (by rw [acs_get S k 2 hk (by omega)]; rfl)
  · rw [← add_lits ad (k * 4) 3 (by omega)]
    exact hc _ _ (by rw [acs_get S k 3 hk (by omega)]; rfl)

theorem neq_ac (a b : Ac) (W : World) (h : a ≠ b) : (binOp .neq 54 (.agg #[.string ⟨a.name.toArray⟩, .int .i64 a.hv, .int .i64 a.st, .int .i64 a.lim]) (.agg #[.string ⟨b.name.toArray⟩, .int .i64 b.hv, .int .i64 b.st, .int .i64 b.lim])).run Tryz.prog W = .ok (.bool true) W := by
  have key : a.name = b.name → a.hv = b.hv → a.st = b.st → ¬ a.lim = b.lim := fun h1 h2 h3 h4 => h (Ac.ext_ h1 h2 h3 h4)
  simp [go_sem]
  exact key
def SameARel (S T : List Ac) (w : World) (i : Value) (wr : World) : Prop :=
  ∃ k j : Nat, k ≤ S.length ∧ i = .int .i64 k ∧ S.take k = T.take k ∧ wr = w.drewN j

end Go.Proofs.YtkkhdjchfhmliaaGreat


