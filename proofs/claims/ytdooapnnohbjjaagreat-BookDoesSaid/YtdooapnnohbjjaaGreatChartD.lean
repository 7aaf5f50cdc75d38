/- What the laws on charts share: Same, early, scripts. -/
import Derived.Test.YtdooapnnohbjjaaGreatChartC
import Derived.Deep.QuietTactic
import Derived.BigQuiet
namespace Go.Proofs.YtdooapnnohbjjaaGreat
open Go.RowKit Go.My Go.Maps
set_option linter.unusedSimpArgs false
set_option linter.unusedVariables false
attribute [local go_sem ↓] Go.wp_at_zero Go.wp_at_succ

instance : DecidableEq Ac := fun a b =>
  if h : a.name = b.name ∧ a.hv = b.hv ∧ a.st = b.st ∧ a.lim = b.lim then isTrue (Ac.ext_ h.1 h.2.1 h.2.2.1 h.2.2.2) else isFalse fun e => h (by subst e; exact ⟨rfl, rfl, rfl, rfl⟩)

theorem acs_get (S : List Ac) : ∀ (k i : Nat) (hk : k < S.length), i < 4 → (acs S)[k * 4 + i]? = (acC S[k])[i]? := by
  induction S with
  | nil => intro k i hk; simp at hk
  | cons a S ih =>
    intro k i hk hi
    show (acC a ++ acs S)[k * 4 + i]? = _
    cases k with
    | zero => rw [List.getElem?_append_left (by simp [acC]; omega)]; simp
    | succ k =>
      rw [List.getElem?_append_right (by simp [acC]; omega)]
      have := ih k i (by simp at hk; omega) hi
      simp only [List.getElem_cons_succ]
      rw [← this]
      congr 1
      simp [acC]
      omega
theorem acs_at {w : World} {F : Nat → Prop} {A : Option Addr} {S : List Ac} (h : Rd w F 4 A S.length (acs S)) (k : Nat) (hk : k < S.length) :
    ∃ ad, A = some ad ∧ F ad.block ∧ w.cell? (ad.add (k * 4)) = some (.string ⟨S[k].name.toArray⟩) ∧ w.cell? ⟨(ad.add (k * 4)).block, (ad.add (k * 4)).off + 1, none⟩ = some (.int .i64 S[k].hv) ∧
      w.cell? ⟨(ad.add (k * 4)).block, (ad.add (k * 4)).off + 2, none⟩ = some (.int .i64 S[k].st) ∧ w.cell? ⟨(ad.add (k * 4)).block, (ad.add (k * 4)).off + 3, none⟩ = some (.int .i64 S[k].lim) := by
  obtain ⟨ad, rfl, hF, hc⟩ := h.2 (by omega)
  refine ⟨ad, rfl, hF, hc (k * 4) _ (by have := acs_get S k 0 hk (by omega); rw [Nat.add_zero] at this; rw [this]; rfl), ?_, ?_, ?_⟩
  · rw [← add_lits ad (k * 4) 1 (by omega)]
    exact hc _ _ (by rw [acs_get S k 1 hk (by omega)]; rfl)
  · rw [← add_lits ad (k * 4) 2 (by omega)]
    exact hc _ _ (by rw [acs_get S k 2 hk (by omega)]; rfl)
  · rw [← add_lits ad (k * 4) 3 (by omega)]
    exact hc _ _ (by rw [acs_get S k 3 hk (by omega)]; rfl)

theorem neq_ac (a b : Ac) (W : World) (h : a ≠ b) : (binOp .neq 79 (.agg #[.string ⟨a.name.toArray⟩, .int .i64 a.hv, .int .i64 a.st, .int .i64 a.lim]) (.agg #[.string ⟨b.name.toArray⟩, .int .i64 b.hv, .int .i64 b.st, .int .i64 b.lim])).run Tryz.prog W = .ok (.bool true) W := by
  have key : a.name = b.name → a.hv = b.hv → a.st = b.st → ¬ a.lim = b.lim := fun h1 h2 h3 h4 => h (Ac.ext_ h1 h2 h3 h4)
  simp [go_sem]
  exact key
def SameARel (S T : List Ac) (w : World) (i : Value) (wr : World) : Prop :=
  ∃ k j : Nat, k ≤ S.length ∧ i = .int .i64 k ∧ S.take k = T.take k ∧ wr = w.drewN j

set_option maxRecDepth 100000 in
set_option maxHeartbeats 1000000 in
theorem sameA_any (F G : Nat → Prop) (A B : Option Addr) (c d : Nat) (S T : List Ac) (w : World) (hl : Rd w F 4 A S.length (acs S)) (hr : Rd w G 4 B T.length (acs T)) (hsz : S.length ≤ 1000000000) :
    Calls Tryz.prog 30 #[.slice A S.length c, .slice B T.length d] w fun e w' => e = .returned (.bool (decide (S = T))) ∧ ∃ n, w' = w.drewN n := by
  by_cases hlen : S.length = T.length
  · have hz : ((S.length : Int) != (T.length : Int)) = false := by rw [bne_eq_false_iff_eq]; omega
    have HL := Lib.hid hlen
    have HA := Lib.hid hl
    have HB := Lib.hid hr
    clear hlen hl hr
    go_enter Tryz.func30, Tryz.ntmps30
    go_wp2
    go_loopw [5] (fun a wr => SameARel S T w a wr) (fun a _ => S.length - (intOf a).toNat)
    case atStart => exact ⟨0, 0, Nat.zero_le _, rfl, rfl, rfl⟩
    case round =>
      obtain ⟨k, j, hk, rfl, heq, rfl⟩ := hrel
      have HE := Lib.hid heq
      clear heq
      by_cases hlt : k < S.length
      · have hlt2 : k < T.length := by have := HL.out; omega
        obtain ⟨ad, rfl, _, p0, p1, p2, p3⟩ := acs_at HA.out k hlt
        obtain ⟨bd, rfl, _, q0, q1, q2, q3⟩ := acs_at HB.out k hlt2
        have e1 : S.take (k + 1) = S.take k ++ [S[k]] := List.take_succ_eq_append_getElem hlt
        have e2 : T.take (k + 1) = T.take k ++ [T[k]] := List.take_succ_eq_append_getElem hlt2
        by_cases hxy : S[k] = T[k]
        · have E : Hid (S.take (k + 1) = T.take (k + 1)) := by show _ = _; rw [e1, e2, HE.out, hxy]
          rw [← hxy] at q0 q1 q2 q3
          clear e1 e2 hxy
          generalize S[k].name.toArray = n1 at *
          generalize S[k].hv = v1 at *
          generalize S[k].st = v2 at *
          generalize S[k].lim = v3 at *
          go_wp2
          go_quiet (fail)
          go_wp2
          go_roundw
          case rel => exact ⟨k + 1, _, by omega, by go_num, E.out, rfl⟩
          case measure => simp [intOf]; omega
        · have E : Hid (S ≠ T) := by
            intro h
            subst h
            exact hxy rfl
          have hne := fun W => neq_ac S[k] T[k] W hxy
          clear e1 e2 hxy
          generalize S[k].name.toArray = n1 at *
          generalize S[k].hv = v1 at *
          generalize S[k].st = v2 at *
          generalize S[k].lim = v3 at *
          generalize T[k].name.toArray = m1 at *
          generalize T[k].hv = u1 at *
          generalize T[k].st = u2 at *
          generalize T[k].lim = u3 at *
          go_wp2
          go_quiet (fail)
          go_wp2
          go_ret
          exact ⟨by rw [decide_eq_false E.out]; rfl, _, World.drewN_drewN _ _ _⟩
      · have : k = S.length := by omega
        subst this
        go_wp2
        go_ret
        have h1 := HE.out
        rw [List.take_length, HL.out, List.take_length] at h1
        exact ⟨by rw [decide_eq_true h1]; rfl, _, rfl⟩
  · have hz : ((S.length : Int) != (T.length : Int)) = true := by rw [bne_iff_ne]; omega
    have HL := Lib.hid hlen
    clear hlen hl hr
    go_enter Tryz.func30, Tryz.ntmps30
    go_wp2
    go_ret
    exact ⟨by rw [decide_eq_false (fun h => HL.out (by rw [h]))]; rfl, 0, rfl⟩

end Go.Proofs.YtdooapnnohbjjaaGreat
