/- The document's way to reckon who reaches whom (of no program but the rows' names): all ways through the first k. -/
import Derived.Test.YtcjofakhefpfdaaKnO
namespace Go.Proofs.Ytcjofakhefpfdaa
set_option linter.unusedSimpArgs false
set_option linter.unusedVariables false

/-- one step or more -/
inductive Tr (R : Nat → Nat → Bool) (i : Nat) : Nat → Prop
  | one {j : Nat} : R i j = true → Tr R i j
  | more {j k : Nat} : Tr R i j → R j k = true → Tr R i k
theorem Tr.trans {R : Nat → Nat → Bool} {i j k : Nat} (h : Tr R i j) (h2 : Tr R j k) : Tr R i k := by
  induction h2 with
  | one h2 => exact .more h h2
  | more _ h2 ih => exact .more ih h2
theorem Tr.head {R : Nat → Nat → Bool} {i j k : Nat} (h : R i j = true) (h2 : Tr R j k) : Tr R i k := Tr.trans (.one h) h2
/-- by ways that go between through numbers below k alone -/
def via (R : Nat → Nat → Bool) : Nat → Nat → Nat → Bool
  | 0, i, j => R i j
  | k + 1, i, j => via R k i j || (via R k i k && via R k k j)
theorem via_tr {R : Nat → Nat → Bool} : ∀ (k : Nat) {i j : Nat}, via R k i j = true → Tr R i j
  | 0, _, _, h => .one h
  | k + 1, _, _, h => by
    simp only [via, Bool.or_eq_true, Bool.and_eq_true] at h
    rcases h with h | ⟨h, h2⟩
    · exact via_tr k h
    · exact (via_tr k h).trans (via_tr k h2)
theorem via_up {R : Nat → Nat → Bool} {k i j : Nat} (h : via R k i j = true) : via R (k + 1) i j = true := by
  simp only [via, Bool.or_eq_true]
  exact .inl h
theorem via_zero {R : Nat → Nat → Bool} {i j : Nat} (h : R i j = true) : ∀ k, via R k i j = true
  | 0 => h
  | k + 1 => via_up (via_zero h k)
/-- the k-th column does not change in the k-th round -/
theorem via_col (R : Nat → Nat → Bool) (k i : Nat) : via R (k + 1) i k = via R k i k := by
  simp only [via]
  cases via R k i k <;> simp
theorem via_row (R : Nat → Nat → Bool) (k j : Nat) : via R (k + 1) k j = via R k k j := by
  simp only [via]
  cases via R k k j <;> simp
theorem via_trans {R : Nat → Nat → Bool} : ∀ (k : Nat) {i m j : Nat}, m < k → via R k i m = true → via R k m j = true → via R k i j = true
  | k + 1, i, m, j, hm, h1, h2 => by
    by_cases e : m = k
    · subst e
      rw [via_col] at h1
      rw [via_row] at h2
      simp only [via, Bool.or_eq_true, Bool.and_eq_true]
      exact .inr ⟨h1, h2⟩
    · have hk : m < k := by omega
      simp only [via, Bool.or_eq_true, Bool.and_eq_true] at h1 h2 ⊢
      rcases h1 with h1 | ⟨h1, h3⟩
      · rcases h2 with h2 | ⟨h2, h4⟩
        · exact .inl (via_trans k hk h1 h2)
        · exact .inr ⟨via_trans k hk h1 h2, h4⟩
      · rcases h2 with h2 | ⟨h2, h4⟩
        · exact .inr ⟨h1, via_trans k hk h3 h2⟩
        · exact .inr ⟨h1, h4⟩
theorem tr_via {R : Nat → Nat → Bool} {n : Nat} (hR : ∀ i j, R i j = true → i < n ∧ j < n) {i j : Nat} : via R n i j = true ↔ Tr R i j := by
  refine ⟨via_tr n, fun h => ?_⟩
  induction h with
  | one h => exact via_zero h n
  | more _ h ih => exact via_trans n (hR _ _ h).1 ih (via_zero h n)

/-- the steps of a graph -/
def stp (G : List (List Int)) (i j : Nat) : Bool := decide (i < G.length) && decide (j < G.length) && (gat G i).contains (j : Int)
theorem stp_iff (G : List (List Int)) (i j : Nat) : stp G i j = true ↔ i < G.length ∧ j < G.length ∧ (j : Int) ∈ gat G i := by
  unfold stp
  simp only [Bool.and_eq_true, decide_eq_true_eq, List.contains_iff_mem, and_assoc]
theorem stp_lt (G : List (List Int)) (i j : Nat) (h : stp G i j = true) : i < G.length ∧ j < G.length := ⟨((stp_iff G i j).1 h).1, ((stp_iff G i j).1 h).2.1⟩
theorem propG_mem (G : List (List Int)) (k : Nat) (x : Int) : x ∈ gat (propG G) k ↔ ∃ j : Nat, x = (j : Int) ∧ stp G k j = true := by
  rw [propG_gat]
  constructor
  · intro h
    split at h
    · obtain ⟨h1, h2⟩ := List.mem_filter.1 h
      unfold inR at h2
      have h3 := of_decide_eq_true h2
      refine ⟨x.toNat, by omega, (stp_iff G k _).2 ⟨by assumption, by omega, ?_⟩⟩
      rw [show ((x.toNat : Nat) : Int) = x by omega]
      exact h1
    · cases h
  · rintro ⟨j, rfl, h⟩
    obtain ⟨h1, h2, h3⟩ := (stp_iff G k j).1 h
    rw [if_pos h1]
    refine List.mem_filter.2 ⟨h3, ?_⟩
    unfold inR
    exact decide_eq_true ⟨by omega, by omega⟩
theorem led_tr {G : List (List Int)} {start : List Int} (hs : ∀ s ∈ start, 0 ≤ s) (x : Int) : Led (propG G) start x ↔ ∃ s j : Nat, (s : Int) ∈ start ∧ x = (j : Int) ∧ Tr (stp G) s j := by
  constructor
  · intro h
    induction h with
    | @first s x h1 h2 =>
      obtain ⟨j, rfl, h3⟩ := (propG_mem G _ _).1 h2
      have := hs s h1
      exact ⟨s.toNat, j, by rw [show ((s.toNat : Nat) : Int) = s by omega]; exact h1, rfl, .one h3⟩
    | @next y x _ h2 ih =>
      obtain ⟨s, j, h3, rfl, h4⟩ := ih
      obtain ⟨k, rfl, h5⟩ := (propG_mem G _ _).1 h2
      exact ⟨s, k, h3, rfl, .more h4 h5⟩
  · rintro ⟨s, j, h1, rfl, h2⟩
    induction h2 with
    | one h => exact .first h1 ((propG_mem G _ _).2 ⟨_, rfl, h⟩)
    | more _ h ih => exact .next ih ((propG_mem G _ _).2 ⟨_, rfl, h⟩)
theorem users_mem (G : List (List Int)) (k : Nat) (x : Int) : x ∈ gat (usersG (propG G)) k ↔ ∃ a : Nat, x = (a : Int) ∧ stp G a k = true := by
  rw [usersG_mem, propG_len]
  constructor
  · rintro ⟨hk, a, ha, rfl, h⟩
    obtain ⟨j, e, h2⟩ := (propG_mem G a _).1 h
    have : k = j := by omega
    subst this
    exact ⟨a, rfl, h2⟩
  · rintro ⟨a, rfl, h⟩
    obtain ⟨h1, h2, _⟩ := (stp_iff G a k).1 h
    exact ⟨h2, a, h1, rfl, (propG_mem G a _).2 ⟨k, rfl, h⟩⟩
theorem led_back {G : List (List Int)} {start : List Int} (hs : ∀ s ∈ start, 0 ≤ s) (x : Int) : Led (usersG (propG G)) start x ↔ ∃ s j : Nat, (s : Int) ∈ start ∧ x = (j : Int) ∧ Tr (stp G) j s := by
  constructor
  · intro h
    induction h with
    | @first s x h1 h2 =>
      obtain ⟨j, rfl, h3⟩ := (users_mem G _ _).1 h2
      have := hs s h1
      exact ⟨s.toNat, j, by rw [show ((s.toNat : Nat) : Int) = s by omega]; exact h1, rfl, .one h3⟩
    | @next y x _ h2 ih =>
      obtain ⟨s, j, h3, rfl, h4⟩ := ih
      obtain ⟨k, rfl, h5⟩ := (users_mem G _ _).1 h2
      exact ⟨s, k, h3, rfl, Tr.head h5 h4⟩
  · rintro ⟨s, j, h1, rfl, h2⟩
    have key : ∀ {a b : Nat}, Tr (stp G) a b → ∀ c : Nat, (c = b ∧ (b : Int) ∈ start ∨ Led (usersG (propG G)) start (b : Int)) → Led (usersG (propG G)) start (a : Int) := by
      intro a b h
      induction h with
      | @one b h =>
        intro c hc
        rcases hc with ⟨_, hc⟩ | hc
        · exact .first hc ((users_mem G _ _).2 ⟨_, rfl, h⟩)
        · exact .next hc ((users_mem G _ _).2 ⟨_, rfl, h⟩)
      | @more b d _ h ih =>
        intro c hc
        refine ih 0 (.inr ?_)
        rcases hc with ⟨_, hc⟩ | hc
        · exact .first hc ((users_mem G _ _).2 ⟨_, rfl, h⟩)
        · exact .next hc ((users_mem G _ _).2 ⟨_, rfl, h⟩)
    exact key h2 s (.inl ⟨rfl, h1⟩)
theorem reachX_iff (G : List (List Int)) (x y : Int) : reachX G x y ↔ ∃ i j : Nat, x = (i : Int) ∧ y = (j : Int) ∧ Tr (stp G) i j := by
  unfold reachX
  constructor
  · rintro ⟨⟨h0, h1⟩, h⟩
    obtain ⟨s, j, h2, rfl, h3⟩ := (led_tr (fun s hs => by rw [List.mem_singleton.1 hs]; exact h0) y).1 h
    exact ⟨s, j, (List.mem_singleton.1 h2).symm, rfl, h3⟩
  · rintro ⟨i, j, rfl, rfl, h⟩
    have hi : i < G.length := by
      cases h with
      | one h => exact (stp_lt G _ _ h).1
      | more h _ =>
        have : ∀ {a b : Nat}, Tr (stp G) a b → a < G.length := fun h => by
          induction h with
          | one h => exact (stp_lt G _ _ h).1
          | more _ _ ih => exact ih
        exact this h
    refine ⟨⟨by omega, by omega⟩, (led_tr (fun s hs => by rw [List.mem_singleton.1 hs]; omega) _).2 ⟨i, j, by simp, rfl, h⟩⟩
theorem openX_iff (G : List (List Int)) (kl : List Bool) (x : Int) : openX G kl x ↔ ∃ a : Nat, a < G.length ∧ x = (a : Int) ∧ unk kl a = false ∧ ∀ b : Nat, Tr (stp G) a b → unk kl b = false := by
  unfold openX
  refine exists_congr fun a => and_congr_right fun ha => and_congr_right fun hx => and_congr_right fun _ => ?_
  subst hx
  rw [led_back (fun s hs => by obtain ⟨b, _, _, rfl⟩ := (pick_mem _ _ _).1 hs; omega)]
  constructor
  · intro h b hb
    have hbl : b < G.length := by
      cases hb with
      | one h => exact (stp_lt G _ _ h).2
      | more _ h => exact (stp_lt G _ _ h).2
    cases hq : unk kl b with
    | false => rfl
    | true => exact absurd ⟨b, a, (pick_mem _ _ _).2 ⟨b, hbl, hq, rfl⟩, rfl, hb⟩ h
  · rintro h ⟨s, j, h1, e, h2⟩
    obtain ⟨b, _, hb, e2⟩ := (pick_mem _ _ _).1 h1
    have e3 : s = b := by omega
    have e4 : a = j := by omega
    subst e3 e4
    rw [h s h2] at hb
    cases hb
end Go.Proofs.Ytcjofakhefpfdaa
