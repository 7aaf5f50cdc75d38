/- The document's way to reckon who reaches whom (of no program but the rows' names): all ways through the first k. Knots in their order, of no program: who is mutual with whom, names (the least of a knot), who is free, the row of knots; what waits for what. A graph's knots told by its ways; which names wait for which (of no program but the rows' names). What a runner may do, told of Insts (of no program but the rows' names): what waits for what, what is open; graphs of rows that tell it. -/
import Derived.Test.YtcpgamidimfflaaGreatQ04
import Derived.Test.YtcpgamidimfflaaGreatQ01
namespace Go.Proofs.YtcpgamidimfflaaGreat
set_option linter.unusedSimpArgs false
set_option linter.unusedVariables false
inductive Tr (R : Nat → Nat → Bool) (i : Nat) : Nat → Prop
  | one {j : Nat} : R i j = true → Tr R i j
  | more {j k : Nat} : Tr R i j → R j k = true → Tr R i k
theorem Tr.trans {R : Nat → Nat → Bool} {i j k : Nat} (h : Tr R i j) (h2 : Tr R j k) : Tr R i k := by
  induction h2 with
  | one h2 => exact .more h h2
  | more _ h2 ih => exact .more ih h2
theorem Tr.head {R : Nat → Nat → Bool} {i j k : Nat} (h : R i j = true) (h2 : Tr R j k) : Tr R i k := Tr.trans (.one h) h2
def via (R : Nat → Nat → Bool) : Nat → Nat → Nat → Bool
  | 0, i, j => R i j
  | k + 1, i, j => via R k i j || (via R k i k && via R k k j)
theorem via_tr {R : Nat → Nat → Bool} : ∀ (k : Nat) {i j : Nat}, via R k i j = true → Tr R i j
  | 0, _, _, h => .one h
  | k + 1, _, _, h => by
    simp only [via, Bool.or_eq_true, Bool.and_eq_true] at h
    rcases h with h | ⟨h, h2⟩
    · exact via_tr k h
    · exact (via_tr k h).trans (via_tr k h2)
theorem via_up {R : Nat → Nat → Bool} {k i j : Nat} (h : via R k i j = true) : via R (k + 1) i j = true := by
  simp only [via, Bool.or_eq_true]
  exact .inl h
theorem via_zero {R : Nat → Nat → Bool} {i j : Nat} (h : R i j = true) : ∀ k, via R k i j = true
  | 0 => h
  | k + 1 => via_up (via_zero h k)
theorem via_col (R : Nat → Nat → Bool) (k i : Nat) : via R (k + 1) i k = via R k i k := by
  simp only [via]
  cases via R k i k <;> simp
theorem via_row (R : Nat → Nat → Bool) (k j : Nat) : via R (k + 1) k j = via R k k j := by
  simp only [via]
  cases via R k k j <;> simp
theorem via_trans {R : Nat → Nat → Bool} : ∀ (k : Nat) {i m j : Nat}, m < k → via R k i m = true → via R k m j = true → via R k i j = true
  | k + 1, i, m, j, hm, h1, h2 => by
    by_cases e : m = k
    · subst e
      rw [via_col] at h1
      rw [via_row] at h2
      simp only [via, Bool.or_eq_true, Bool.and_eq_true]
      exact .inr ⟨h1, h2⟩
    · have hk : m < k := by omega
      simp only [via, Bool.or_eq_true, Bool.and_eq_true] at h1 h2 ⊢
      rcases h1 with h1 | ⟨h1, h3⟩
      · rcases h2 with h2 | ⟨h2, h4⟩
        · exact .inl (via_trans k hk h1 h2)
        · exact .inr ⟨via_trans k hk h1 h2, h4⟩
      · rcases h2 with h2 | ⟨h2, h4⟩
        · exact .inr ⟨h1, via_trans k hk h3 h2⟩
        · exact .inr ⟨h1, h4⟩
theorem tr_via {R : Nat → Nat → Bool} {n : Nat} (hR : ∀ i j, R i j = true → i < n ∧ j < n) {i j : Nat} : via R n i j = true ↔ Tr R i j := by
  refine ⟨via_tr n, fun h => ?_⟩
  induction h with
  | one h => exact via_zero h n
  | more _ h ih => exact via_trans n (hR _ _ h).1 ih (via_zero h n)
def stp (G : List (List Int)) (i j : Nat) : Bool := decide (i < G.length) && decide (j < G.length) && (gat G i).contains (j : Int)
theorem stp_iff (G : List (List Int)) (i j : Nat) : stp G i j = true ↔ i < G.length ∧ j < G.length ∧ (j : Int) ∈ gat G i := by
  unfold stp
  simp only [Bool.and_eq_true, decide_eq_true_eq, List.contains_iff_mem, and_assoc]
theorem stp_lt (G : List (List Int)) (i j : Nat) (h : stp G i j = true) : i < G.length ∧ j < G.length := ⟨((stp_iff G i j).1 h).1, ((stp_iff G i j).1 h).2.1⟩
theorem propG_mem (G : List (List Int)) (k : Nat) (x : Int) : x ∈ gat (propG G) k ↔ ∃ j : Nat, x = (j : Int) ∧ stp G k j = true := by
  rw [propG_gat]
  constructor
  · intro h
    split at h
    · obtain ⟨h1, h2⟩ := List.mem_filter.1 h
      unfold inR at h2
      have h3 := of_decide_eq_true h2
      refine ⟨x.toNat, by omega, (stp_iff G k _).2 ⟨by assumption, by omega, ?_⟩⟩
      rw [show ((x.toNat : Nat) : Int) = x by omega]
      exact h1
    · cases h
  · rintro ⟨j, rfl, h⟩
    obtain ⟨h1, h2, h3⟩ := (stp_iff G k j).1 h
    rw [if_pos h1]
    refine List.mem_filter.2 ⟨h3, ?_⟩
    unfold inR
    exact decide_eq_true ⟨by omega, by omega⟩
theorem users_mem (G : List (List Int)) (k : Nat) (x : Int) : x ∈ gat (usersG (propG G)) k ↔ ∃ a : Nat, x = (a : Int) ∧ stp G a k = true := by
  rw [usersG_mem, propG_len]
  constructor
  · rintro ⟨hk, a, ha, rfl, h⟩
    obtain ⟨j, e, h2⟩ := (propG_mem G a _).1 h
    have : k = j := by omega
    subst this
    exact ⟨a, rfl, h2⟩
  · rintro ⟨a, rfl, h⟩
    obtain ⟨h1, h2, _⟩ := (stp_iff G a k).1 h
    exact ⟨h2, a, h1, rfl, (propG_mem G a _).2 ⟨k, rfl, h⟩⟩
theorem led_back {G : List (List Int)} {start : List Int} (hs : ∀ s ∈ start, 0 ≤ s) (x : Int) : Led (usersG (propG G)) start x ↔ ∃ s j : Nat, (s : Int) ∈ start ∧ x = (j : Int) ∧ Tr (stp G) j s := by
  constructor
  · intro h
    induction h with
    | @first s x h1 h2 =>
      obtain ⟨j, rfl, h3⟩ := (users_mem G _ _).1 h2
      have := hs s h1
      exact ⟨s.toNat, j, by rw [show ((s.toNat : Nat) : Int) = s by omega]; exact h1, rfl, .one h3⟩
    | @next y x _ h2 ih =>
      obtain ⟨s, j, h3, rfl, h4⟩ := ih
      obtain ⟨k, rfl, h5⟩ := (users_mem G _ _).1 h2
      exact ⟨s, k, h3, rfl, Tr.head h5 h4⟩
  · rintro ⟨s, j, h1, rfl, h2⟩
    have key : ∀ {a b : Nat}, Tr (stp G) a b → ∀ c : Nat, (c = b ∧ (b : Int) ∈ start ∨ Led (usersG (propG G)) start (b : Int)) → Led (usersG (propG G)) start (a : Int) := by
      intro a b h
      induction h with
      | @one b h =>
        intro c hc
        rcases hc with ⟨_, hc⟩ | hc
        · exact .first hc ((users_mem G _ _).2 ⟨_, rfl, h⟩)
        · exact .next hc ((users_mem G _ _).2 ⟨_, rfl, h⟩)
      | @more b d _ h ih =>
        intro c hc
        refine ih 0 (.inr ?_)
        rcases hc with ⟨_, hc⟩ | hc
        · exact .first hc ((users_mem G _ _).2 ⟨_, rfl, h⟩)
        · exact .next hc ((users_mem G _ _).2 ⟨_, rfl, h⟩)
    exact key h2 s (.inl ⟨rfl, h1⟩)
theorem openX_iff (G : List (List Int)) (kl : List Bool) (x : Int) : openX G kl x ↔ ∃ a : Nat, a < G.length ∧ x = (a : Int) ∧ unk kl a = false ∧ ∀ b : Nat, Tr (stp G) a b → unk kl b = false := by
  unfold openX
  refine exists_congr fun a => and_congr_right fun ha => and_congr_right fun hx => and_congr_right fun _ => ?_
  subst hx
  rw [led_back (fun s hs => by obtain ⟨b, _, _, rfl⟩ := (pick_mem _ _ _).1 hs; omega)]
  constructor
  · intro h b hb
    have hbl : b < G.length := by
      cases hb with
      | one h => exact (stp_lt G _ _ h).2
      | more _ h => exact (stp_lt G _ _ h).2
    cases hq : unk kl b with
    | false => rfl
    | true => exact absurd ⟨b, a, (pick_mem _ _ _).2 ⟨b, hbl, hq, rfl⟩, rfl, hb⟩ h
  · rintro h ⟨s, j, h1, e, h2⟩
    obtain ⟨b, _, hb, e2⟩ := (pick_mem _ _ _).1 h1
    have e3 : s = b := by omega
    have e4 : a = j := by omega
    subst e3 e4
    rw [h s h2] at hb
    cases hb
end Go.Proofs.YtcpgamidimfflaaGreat
set_option linter.unusedVariables false
set_option linter.unusedSimpArgs false
namespace Go.My.Kn
structure Reach (n : Nat) (V : Nat → Nat → Bool) : Prop where
  tr : ∀ i j k, V i j = true → V j k = true → V i k = true
  lt : ∀ i j, V i j = true → i < n ∧ j < n
def mu (V : Nat → Nat → Bool) (i k : Nat) : Bool := k == i || (V i k && V k i)
def cls (n : Nat) (V : Nat → Nat → Bool) (i : Nat) : List Nat := (List.range n).filter fun k => mu V i k
def nm (n : Nat) (V : Nat → Nat → Bool) (i : Nat) : Nat := (cls n V i).headD i
section
variable {n : Nat} {V : Nat → Nat → Bool}
theorem mu_iff (i k : Nat) : mu V i k = true ↔ k = i ∨ (V i k = true ∧ V k i = true) := by
  unfold mu; simp only [Bool.or_eq_true, beq_iff_eq, Bool.and_eq_true]
theorem mu_self (i : Nat) : mu V i i = true := (mu_iff i i).2 (.inl rfl)
theorem mu_symm {i k : Nat} (h : mu V i k = true) : mu V k i = true := by
  rw [mu_iff] at h ⊢
  rcases h with rfl | ⟨a, b⟩
  · exact .inl rfl
  · exact .inr ⟨b, a⟩
theorem mu_trans (h : Reach n V) {i j k : Nat} (a : mu V i j = true) (b : mu V j k = true) : mu V i k = true := by
  rw [mu_iff] at a b ⊢
  rcases a with rfl | ⟨a, a'⟩
  · exact b
  · rcases b with rfl | ⟨b, b'⟩
    · exact .inr ⟨a, a'⟩
    · exact .inr ⟨h.tr _ _ _ a b, h.tr _ _ _ b' a'⟩
theorem mem_cls (i k : Nat) : k ∈ cls n V i ↔ k < n ∧ mu V i k = true := by
  unfold cls; rw [List.mem_filter, List.mem_range]
theorem self_cls {i : Nat} (h : i < n) : i ∈ cls n V i := (mem_cls i i).2 ⟨h, mu_self i⟩
theorem cls_up (i : Nat) : (cls n V i).Pairwise (· < ·) := List.pairwise_lt_range.filter _
theorem cls_eq (h : Reach n V) {i k : Nat} (hk : mu V i k = true) : cls n V i = cls n V k := by
  unfold cls
  apply List.filter_congr
  intro x _
  apply Bool.eq_iff_iff.2
  exact ⟨fun hx => mu_trans h (mu_symm hk) hx, fun hx => mu_trans h hk hx⟩
theorem nm_cls {i : Nat} (h : i < n) : nm n V i ∈ cls n V i ∧ ∀ k ∈ cls n V i, nm n V i ≤ k := by
  have hs := self_cls (V := V) h
  have hu := cls_up (n := n) (V := V) i
  unfold nm
  cases hc : cls n V i with
  | nil => rw [hc] at hs; cases hs
  | cons a r =>
    rw [hc, List.pairwise_cons] at hu
    refine ⟨List.mem_cons_self, fun k hk => ?_⟩
    rcases List.mem_cons.1 hk with rfl | hk
    · exact Nat.le_refl _
    · exact Nat.le_of_lt (hu.1 k hk)
theorem nm_lt {i : Nat} (h : i < n) : nm n V i < n := ((mem_cls _ _).1 (nm_cls (V := V) h).1).1
theorem nm_mut {i : Nat} (h : i < n) : mu V i (nm n V i) = true := ((mem_cls _ _).1 (nm_cls (V := V) h).1).2
theorem nm_le {i : Nat} (h : i < n) : nm n V i ≤ i := (nm_cls (V := V) h).2 i (self_cls h)
theorem nm_eq (h : Reach n V) {i k : Nat} (hi : i < n) (hk : k < n) : nm n V i = nm n V k ↔ mu V i k = true := by
  constructor
  · intro e
    have h1 := nm_mut (V := V) hi
    have h2 := mu_symm (nm_mut (V := V) hk)
    rw [e] at h1
    exact mu_trans h h1 h2
  · intro hm
    unfold nm
    rw [cls_eq h hm]
    have hs := self_cls (V := V) hk
    cases hc : cls n V k with
    | nil => rw [hc] at hs; cases hs
    | cons a r => rfl
theorem nm_nm (h : Reach n V) {i : Nat} (hi : i < n) : nm n V (nm n V i) = nm n V i := ((nm_eq h (nm_lt hi) hi).2 (mu_symm (nm_mut hi)))
def Free (n : Nat) (V : Nat → Nat → Bool) (D : List Nat) (i : Nat) : Prop := i < n ∧ nm n V i ∉ D ∧ ∀ k, V i k = true → V k i = false → nm n V k ∈ D
inductive KnSeq (n : Nat) (V : Nat → Nat → Bool) : List Nat → List (List Nat) → Prop
  | nil {D : List Nat} : (∀ i, ¬ Free n V D i) → KnSeq n V D []
  | cons {D : List Nat} {L : List (List Nat)} (i : Nat) : Free n V D i → (∀ j, j < i → ¬ Free n V D j) → KnSeq n V (i :: D) L → KnSeq n V D (cls n V i :: L)
theorem Free.name (h : Reach n V) {D : List Nat} {i : Nat} (hf : Free n V D i) : Free n V D (nm n V i) := by
  obtain ⟨h1, h2, h3⟩ := hf
  refine ⟨nm_lt h1, by rw [nm_nm h h1]; exact h2, fun k hk hk2 => ?_⟩
  have hm := nm_mut (V := V) h1
  rw [mu_iff] at hm
  rcases hm with e | ⟨a, b⟩
  · rw [e] at hk hk2; exact h3 k hk hk2
  · refine h3 k (h.tr _ _ _ a hk) ?_
    cases hv : V k i with
    | false => rfl
    | true => rw [h.tr _ _ _ hv a] at hk2; cases hk2
theorem least_name (h : Reach n V) {D : List Nat} {i : Nat} (hf : Free n V D i) (hl : ∀ j, j < i → ¬ Free n V D j) : nm n V i = i := by
  have := nm_le (V := V) hf.1
  rcases Nat.lt_or_ge (nm n V i) i with c | c
  · exact absurd (hf.name h) (hl _ c)
  · omega
def Shut (n : Nat) (V : Nat → Nat → Bool) (D : List Nat) : Prop := ∀ i k, i < n → nm n V i ∈ D → V i k = true → nm n V k ∈ D
theorem Shut.nil : Shut n V [] := fun i k _ hi => by cases hi
theorem Shut.cons (h : Reach n V) {D : List Nat} {a : Nat} (hs : Shut n V D) (hf : Free n V D a) (ha : nm n V a = a) : Shut n V (a :: D) := by
  intro i k hi hm hv
  rcases List.mem_cons.1 hm with e | hm
  · have hia : mu V a i = true := (nm_eq h hf.1 hi).1 (by rw [ha, e])
    by_cases hk : mu V a k = true
    · have := (nm_eq h hf.1 (h.lt _ _ hv).2).2 hk
      rw [ha] at this
      rw [← this]; exact List.mem_cons_self
    · have hak : V a k = true := by
        rw [mu_iff] at hia
        rcases hia with rfl | ⟨x, _⟩
        · exact hv
        · exact h.tr _ _ _ x hv
      refine List.mem_cons_of_mem _ (hf.2.2 k hak ?_)
      cases hka : V k a with
      | false => rfl
      | true => exact absurd ((mu_iff a k).2 (.inr ⟨hak, hka⟩)) hk
  · exact List.mem_cons_of_mem _ (hs i k hi hm hv)
end
structure ReachR (n : Nat) (R V : Nat → Nat → Bool) : Prop extends Reach n V where
  one : ∀ i j, R i j = true → V i j = true
  ind : ∀ (i : Nat) (P : Nat → Prop), (∀ j, R i j = true → P j) → (∀ j k, V i j = true → P j → R j k = true → P k) → ∀ k, V i k = true → P k
structure BtOk (n : Nat) (R V : Nat → Nat → Bool) (Bt : Nat → List Nat) : Prop where
  src : ∀ a b, b ∈ Bt a → ∃ u v, u < n ∧ nm n V u = a ∧ nm n V v = b ∧ R u v = true ∧ a ≠ b
  all : ∀ u v, R u v = true → nm n V u ≠ nm n V v → nm n V v ∈ Bt (nm n V u)
section
variable {n : Nat} {R V : Nat → Nat → Bool} {Bt : Nat → List Nat}
theorem ready_iff (h : ReachR n R V) (hb : BtOk n R V Bt) {D : List Nat} (hs : Shut n V D) {a : Nat} (ha : a < n) (hn : nm n V a = a) (hD : a ∉ D) : (∀ b ∈ Bt a, b ∈ D) ↔ Free n V D a := by
  constructor
  · intro hw
    refine ⟨ha, by rw [hn]; exact hD, fun k hk hk2 => ?_⟩
    have key : ∀ k, V a k = true → nm n V k = a ∨ nm n V k ∈ D := by
      refine h.ind a (fun k => nm n V k = a ∨ nm n V k ∈ D) (fun j hj => ?_) (fun j k hj hp hjk => ?_)
      · by_cases e : nm n V j = a
        · exact .inl e
        · refine .inr (hw _ ?_)
          have := hb.all a j hj (by rw [hn]; exact fun e2 => e e2.symm)
          rwa [hn] at this
      · by_cases e : nm n V k = a
        · exact .inl e
        · rcases hp with e2 | e2
          · refine .inr (hw _ ?_)
            have := hb.all j k hjk (by rw [e2]; exact fun e3 => e e3.symm)
            rwa [e2] at this
          · exact .inr (hs j k (h.lt _ _ (h.one _ _ hjk)).1 e2 (h.one _ _ hjk))
    rcases key k hk with e | e
    · exfalso
      have hm : mu V a k = true := (nm_eq h.toReach ha (h.lt _ _ hk).2).1 (by rw [hn, e])
      rcases (mu_iff a k).1 hm with rfl | ⟨_, x⟩
      · rw [hk] at hk2; cases hk2
      · rw [x] at hk2; cases hk2
    · exact e
  · rintro ⟨_, _, hf⟩ b hba
    obtain ⟨u, v, hu, e1, e2, e3, e4⟩ := hb.src a b hba
    have hvn := (h.lt _ _ (h.one _ _ e3)).2
    have hau : mu V a u = true := (nm_eq h.toReach ha hu).1 (by rw [hn, e1])
    have hav : V a v = true := by
      rcases (mu_iff a u).1 hau with rfl | ⟨x, _⟩
      · exact h.one _ _ e3
      · exact h.tr _ _ _ x (h.one _ _ e3)
    have hva : V v a = false := by
      cases hx : V v a with
      | false => rfl
      | true =>
        have := (nm_eq h.toReach ha hvn).2 ((mu_iff a v).2 (.inr ⟨hav, hx⟩))
        rw [hn, e2] at this
        exact absurd this e4
    rw [← e2]
    exact hf v hav hva
def open_ (Bt : Nat → List Nat) (D : List Nat) (a : Nat) : Nat := ((Bt a).filter fun b => !D.contains b).length
theorem open_zero (D : List Nat) (a : Nat) : open_ Bt D a = 0 ↔ ∀ b ∈ Bt a, b ∈ D := by
  unfold open_
  rw [List.length_eq_zero_iff, List.filter_eq_nil_iff]
  simp
theorem open_cons (D : List Nat) {a : Nat} (ha : a ∉ D) (b : Nat) : open_ Bt D b = open_ Bt (a :: D) b + (Bt b).count a := by
  unfold open_
  generalize Bt b = l
  induction l with
  | nil => rfl
  | cons x l ih =>
    rw [List.filter_cons, List.filter_cons, List.count_cons]
    by_cases e : x = a
    · subst e
      have h1 : (!D.contains x) = true := by simpa using ha
      have h2 : (!(x :: D).contains x) = false := by simp
      rw [h1, h2]
      simp only [if_true, Bool.false_eq_true, if_false, List.length_cons, beq_self_eq_true]
      omega
    · have h2 : (!(a :: D).contains x) = (!D.contains x) := by simp [e]
      rw [h2]
      have h3 : (x == a) = false := by simpa using e
      rw [h3]
      cases hc : (!D.contains x)
      · simp only [Bool.false_eq_true, if_false]; omega
      · simp only [if_true, Bool.false_eq_true, if_false, List.length_cons]; omega
structure KI (n : Nat) (V : Nat → Nat → Bool) (Bt : Nat → List Nat) (D : List Nat) (W : Nat → Nat) (H : List Nat) (m : Nat → Nat) : Prop where
  shut : Shut n V D
  waits : ∀ b, b < n → nm n V b = b → b ∉ D → W b = open_ Bt D b + m b
  heap : ∀ b, b ∈ H ↔ b < n ∧ nm n V b = b ∧ b ∉ D ∧ W b = 0
  once : H.Nodup
theorem KI.free (h : ReachR n R V) (hb : BtOk n R V Bt) {D : List Nat} {W : Nat → Nat} {H : List Nat} (k : KI n V Bt D W H fun _ => 0) {a : Nat} (ha : a ∈ H) : Free n V D a ∧ nm n V a = a := by
  obtain ⟨h1, h2, h3, h4⟩ := (k.heap a).1 ha
  refine ⟨(ready_iff h hb k.shut h1 h2 h3).1 ((open_zero D a).1 ?_), h2⟩
  have := k.waits a h1 h2 h3
  omega
theorem KI.mem (h : ReachR n R V) (hb : BtOk n R V Bt) {D : List Nat} {W : Nat → Nat} {H : List Nat} (k : KI n V Bt D W H fun _ => 0) {i : Nat} (hf : Free n V D i) : nm n V i ∈ H := by
  have hn := hf.name h.toReach
  have h1 := nm_nm (V := V) h.toReach hf.1
  have h2 : nm n V i ∉ D := hf.2.1
  refine (k.heap _).2 ⟨hn.1, h1, h2, ?_⟩
  rw [k.waits _ hn.1 h1 h2]
  have := (open_zero (Bt := Bt) D (nm n V i)).2 ((ready_iff h hb k.shut hn.1 h1 h2).2 hn)
  omega
theorem KI.none (h : ReachR n R V) (hb : BtOk n R V Bt) {D : List Nat} {W : Nat → Nat} (k : KI n V Bt D W [] fun _ => 0) (i : Nat) : ¬ Free n V D i := fun hf => by
  have := k.mem h hb hf
  cases this
theorem KI.least (h : ReachR n R V) (hb : BtOk n R V Bt) {D : List Nat} {W : Nat → Nat} {H : List Nat} (k : KI n V Bt D W H fun _ => 0) {a : Nat} (hm : ∀ b ∈ H, a ≤ b) (j : Nat) (hj : j < a) : ¬ Free n V D j := fun hf => by
  have h1 := hm _ (k.mem h hb hf)
  have h2 := nm_le (V := V) hf.1
  omega
theorem KI.pop (h : ReachR n R V) (hb : BtOk n R V Bt) {D : List Nat} {W : Nat → Nat} {H H' : List Nat} (k : KI n V Bt D W H fun _ => 0) {a : Nat} (hp : H.Perm (a :: H')) : KI n V Bt (a :: D) W H' fun b => (Bt b).count a := by
  have ha : a ∈ H := hp.mem_iff.2 List.mem_cons_self
  obtain ⟨hf, hn⟩ := k.free h hb ha
  have hD := ((k.heap a).1 ha).2.2.1
  have hnd := hp.nodup_iff.1 k.once
  rw [List.nodup_cons] at hnd
  refine ⟨k.shut.cons h.toReach hf hn, fun b h1 h2 h3 => ?_, fun b => ?_, hnd.2⟩
  · have hbD : b ∉ D := fun e => h3 (List.mem_cons_of_mem _ e)
    rw [k.waits b h1 h2 hbD, open_cons D hD b]; omega
  · have hbm : b ∈ H ↔ b = a ∨ b ∈ H' := by rw [hp.mem_iff, List.mem_cons]
    constructor
    · intro hbh
      obtain ⟨h1, h2, h3, h4⟩ := (k.heap b).1 (hbm.2 (.inr hbh))
      refine ⟨h1, h2, fun e => ?_, h4⟩
      rcases List.mem_cons.1 e with rfl | e
      · exact hnd.1 hbh
      · exact h3 e
    · rintro ⟨h1, h2, h3, h4⟩
      rcases hbm.1 ((k.heap b).2 ⟨h1, h2, fun e => h3 (List.mem_cons_of_mem _ e), h4⟩) with rfl | e
      · exact absurd List.mem_cons_self h3
      · exact e
theorem KI.tell {D : List Nat} {W : Nat → Nat} {H : List Nat} {m : Nat → Nat} (k : KI n V Bt D W H m) {b : Nat} (hb1 : b < n) (hb2 : nm n V b = b) (hb3 : b ∉ D) (hm : 0 < m b) :
    0 < W b ∧ KI n V Bt D (fun x => if x = b then W b - 1 else W x) (if W b - 1 = 0 then b :: H else H) fun x => if x = b then m b - 1 else m x := by
  have hw := k.waits b hb1 hb2 hb3
  have hbH : b ∉ H := fun e => by have := ((k.heap b).1 e).2.2.2; omega
  refine ⟨by omega, k.shut, fun x h1 h2 h3 => ?_, fun x => ?_, ?_⟩
  · by_cases e : x = b
    · subst e; rw [if_pos rfl, if_pos rfl]; omega
    · rw [if_neg e, if_neg e]; exact k.waits x h1 h2 h3
  · by_cases e : x = b
    · subst e
      rw [if_pos rfl]
      split
      · rename_i hz
        exact ⟨fun _ => ⟨hb1, hb2, hb3, hz⟩, fun _ => List.mem_cons_self⟩
      · rename_i hz
        exact ⟨fun e => absurd e hbH, fun e => absurd e.2.2.2 hz⟩
    · rw [if_neg e]
      have : x ∈ (if W b - 1 = 0 then b :: H else H) ↔ x ∈ H := by
        split
        · rw [List.mem_cons]; exact ⟨fun h => h.resolve_left e, .inr⟩
        · exact Iff.rfl
      rw [this]; exact k.heap x
  · split
    · exact List.nodup_cons.2 ⟨hbH, k.once⟩
    · exact k.once
theorem KI.perm {D : List Nat} {W : Nat → Nat} {H H' : List Nat} {m : Nat → Nat} (k : KI n V Bt D W H m) (hp : H.Perm H') : KI n V Bt D W H' m :=
  ⟨k.shut, k.waits, fun b => by rw [← hp.mem_iff]; exact k.heap b, hp.nodup_iff.1 k.once⟩
theorem KI.zero {D : List Nat} {W : Nat → Nat} {H : List Nat} {m : Nat → Nat} (k : KI n V Bt D W H m) (hm : ∀ b, b < n → m b = 0) : KI n V Bt D W H fun _ => 0 :=
  ⟨k.shut, fun b h1 h2 h3 => by rw [k.waits b h1 h2 h3, hm b h1], k.heap, k.once⟩
theorem KI.not_done (h : ReachR n R V) (hb : BtOk n R V Bt) {D : List Nat} {W : Nat → Nat} {H : List Nat} {m : Nat → Nat} {a : Nat} (hs : Shut n V D) (haD : a ∉ D) (ha : a < n) (hn : nm n V a = a) {b : Nat} (hab : a ∈ Bt b) : b < n ∧ nm n V b = b ∧ b ∉ a :: D := by
  obtain ⟨u, v, hu, e1, e2, e3, e4⟩ := hb.src b a hab
  have hv := (h.lt _ _ (h.one _ _ e3)).2
  refine ⟨by rw [← e1]; exact nm_lt hu, by rw [← e1]; exact nm_nm h.toReach hu, fun hm => ?_⟩
  rcases List.mem_cons.1 hm with e | hm
  · exact e4 e
  · have := hs u v hu (by rw [e1]; exact hm) (h.one _ _ e3)
    rw [e2] at this
    exact haD this
end
end Go.My.Kn
namespace Go.Proofs.YtcpgamidimfflaaGreat
open Go.My Go.My.Kn
set_option linter.unusedSimpArgs false
set_option linter.unusedVariables false
def via' (G : List (List Int)) : Nat → Nat → Bool := via (stp G) G.length
theorem vtr (G : List (List Int)) (i j : Nat) : via' G i j = true ↔ Tr (stp G) i j := tr_via (stp_lt G)
theorem reachR (G : List (List Int)) : ReachR G.length (stp G) (via' G) where
  tr i j k h1 h2 := (vtr G i k).2 (((vtr G i j).1 h1).trans ((vtr G j k).1 h2))
  lt i j h := by
    have h' := (vtr G i j).1 h
    clear h
    induction h' with
    | one h => exact stp_lt G _ _ h
    | more _ h2 ih => exact ⟨ih.1, (stp_lt G _ _ h2).2⟩
  one i j h := (vtr G i j).2 (.one h)
  ind i P h1 h2 k hk := by
    have hk' := (vtr G i k).1 hk
    clear hk
    induction hk' with
    | one h => exact h1 _ h
    | more h3 h4 ih => exact h2 _ _ ((vtr G i _).2 h3) ih h4
def gn (G : List (List Int)) (v : Nat) : List Nat := (gat (propG G) v).map Int.toNat
theorem gn_mem (G : List (List Int)) (v y : Nat) : y ∈ gn G v ↔ stp G v y = true := by
  unfold gn
  rw [List.mem_map]
  constructor
  · rintro ⟨x, hx, rfl⟩
    obtain ⟨j, rfl, hj⟩ := (propG_mem G v x).1 hx
    exact hj
  · intro h
    exact ⟨(y : Int), (propG_mem G v y).2 ⟨y, rfl, h⟩, rfl⟩
theorem rch_iff (G : List (List Int)) (a b : Nat) : Rch (gn G) a b ↔ a = b ∨ via' G a b = true := by
  constructor
  · intro h
    induction h with
    | refl => exact .inl rfl
    | step _ he ih =>
      have he := (gn_mem G _ _).1 he
      right
      rcases ih with rfl | ih
      · exact (reachR G).one _ _ he
      · exact (reachR G).tr _ _ _ ih ((reachR G).one _ _ he)
  · rintro (rfl | h)
    · exact .refl
    · have h' := (vtr G a b).1 h
      clear h
      induction h' with
      | one h => exact .one ((gn_mem G _ _).2 h)
      | more _ h2 ih => exact .step ih ((gn_mem G _ _).2 h2)
theorem both_iff (G : List (List Int)) (a b : Nat) : Both (gn G) a b ↔ mu (via' G) a b = true := by
  unfold Both
  rw [rch_iff, rch_iff, mu_iff]
  constructor
  · rintro ⟨h1, h2⟩
    rcases h1 with rfl | h1
    · exact .inl rfl
    · rcases h2 with rfl | h2
      · exact .inl rfl
      · exact .inr ⟨h1, h2⟩
  · rintro (rfl | ⟨h1, h2⟩)
    · exact ⟨.inl rfl, .inl rfl⟩
    · exact ⟨.inr h1, .inr h2⟩
theorem up_eq : ∀ {l m : List Nat}, l.Pairwise (· < ·) → m.Pairwise (· < ·) → (∀ x, x ∈ l ↔ x ∈ m) → l = m
  | [], [], _, _, _ => rfl
  | [], b :: m, _, _, h => by have := (h b).2 List.mem_cons_self; cases this
  | a :: l, [], _, _, h => by have := (h a).1 List.mem_cons_self; cases this
  | a :: l, b :: m, h1, h2, h => by
    rw [List.pairwise_cons] at h1 h2
    have e : a = b := by
      have p := (h a).1 List.mem_cons_self
      have q := (h b).2 List.mem_cons_self
      rcases List.mem_cons.1 p with p | p
      · exact p
      · rcases List.mem_cons.1 q with q | q
        · exact q.symm
        · have := h1.1 b q; have := h2.1 a p; omega
    subst e
    rw [up_eq h1.2 h2.2 fun x => ?_]
    constructor
    · intro hx
      rcases List.mem_cons.1 ((h x).1 (List.mem_cons_of_mem _ hx)) with e | e
      · subst e; have := h1.1 x hx; omega
      · exact e
    · intro hx
      rcases List.mem_cons.1 ((h x).2 (List.mem_cons_of_mem _ hx)) with e | e
      · subst e; have := h2.1 x hx; omega
      · exact e
theorem knot_cls {G : List (List Int)} {K : List Nat} (h : IsKnot (gn G) K) {x : Nat} (hx : x ∈ K) (hn : ∀ y ∈ K, y < G.length) : K = cls G.length (via' G) x := by
  refine up_eq h.up (cls_up _) fun y => ?_
  rw [h.all x hx y, both_iff, mem_cls]
  refine ⟨fun hm => ⟨?_, hm⟩, fun h => h.2⟩
  have : y ∈ K := (h.all x hx y).2 ((both_iff G x y).2 hm)
  exact hn y this
theorem knot_head {G : List (List Int)} {K : List Nat} (h : IsKnot (gn G) K) (hn : ∀ y ∈ K, y < G.length) : ∃ a r, K = a :: r ∧ ∀ x ∈ K, nm G.length (via' G) x = a ∧ K = cls G.length (via' G) x := by
  cases hK : K with
  | nil => exact absurd hK h.ne
  | cons a r =>
    refine ⟨a, r, rfl, fun x hx => ?_⟩
    rw [← hK] at hx
    have := knot_cls h hx hn
    rw [← hK]
    refine ⟨?_, this⟩
    unfold nm
    rw [← this, hK]; rfl
def betF (G : List (List Int)) (i j a : Nat) : List Nat :=
  ((List.range i).flatMap fun u => if nm G.length (via' G) u = a then ((gn G u).filter fun v => nm G.length (via' G) v != a).map (nm G.length (via' G)) else []) ++
    (if nm G.length (via' G) i = a then (((gn G i).take j).filter fun v => nm G.length (via' G) v != a).map (nm G.length (via' G)) else [])
def betG (G : List (List Int)) (a : Nat) : List Nat := betF G G.length 0 a
theorem betG_ok (G : List (List Int)) : BtOk G.length (stp G) (via' G) (betG G) where
  src a b hb := by
    unfold betG betF at hb
    rw [List.mem_append] at hb
    rcases hb with hb | hb
    · obtain ⟨u, hu, hb⟩ := List.mem_flatMap.1 hb
      rw [List.mem_range] at hu
      split at hb
      · rename_i e
        obtain ⟨v, hv, rfl⟩ := List.mem_map.1 hb
        obtain ⟨hv1, hv2⟩ := List.mem_filter.1 hv
        exact ⟨u, v, hu, e, rfl, (gn_mem G u v).1 hv1, fun e2 => by rw [← e2] at hv2; simp at hv2⟩
      · cases hb
    · rw [List.take_zero] at hb
      split at hb <;> cases hb
  all u v huv hne := by
    unfold betG betF
    refine List.mem_append_left _ (List.mem_flatMap.2 ⟨u, List.mem_range.2 (stp_lt G u v huv).1, ?_⟩)
    rw [if_pos rfl]
    exact List.mem_map.2 ⟨v, List.mem_filter.2 ⟨(gn_mem G u v).2 huv, by simpa using fun e => hne e.symm⟩, rfl⟩
theorem betF_zero (G : List (List Int)) (a : Nat) : betF G 0 0 a = [] := by
  unfold betF; rw [List.take_zero]; simp
theorem betF_next (G : List (List Int)) (i a : Nat) : betF G i (gn G i).length a = betF G (i + 1) 0 a := by
  unfold betF
  rw [List.range_succ, List.flatMap_append, List.take_length, List.take_zero]
  simp
theorem betF_push {G : List (List Int)} {i j : Nat} (hj : j < (gn G i).length) (a : Nat) :
    betF G i (j + 1) a = if nm G.length (via' G) i = a ∧ nm G.length (via' G) (gn G i)[j] ≠ a then betF G i j a ++ [nm G.length (via' G) (gn G i)[j]] else betF G i j a := by
  unfold betF
  by_cases e : nm G.length (via' G) i = a
  · rw [if_pos e, if_pos e, List.take_succ_eq_append_getElem hj, List.filter_append, List.map_append]
    by_cases e2 : nm G.length (via' G) (gn G i)[j] = a
    · rw [if_neg (fun h => h.2 e2)]
      have : [(gn G i)[j]].filter (fun v => nm G.length (via' G) v != a) = [] := by simp [e2]
      rw [this]; simp
    · rw [if_pos ⟨e, e2⟩]
      have : [(gn G i)[j]].filter (fun v => nm G.length (via' G) v != a) = [(gn G i)[j]] := by simp [e2]
      rw [this, ← List.append_assoc]; simp
  · rw [if_neg e, if_neg e, if_neg (fun h => e h.1)]
end Go.Proofs.YtcpgamidimfflaaGreat
namespace Go.Proofs.YtcpgamidimfflaaGreat
open Go.My Go.My.Kn
set_option linter.unusedSimpArgs false
set_option linter.unusedVariables false
abbrev In2 := Int × Int
def aheadI (a b : In2) : Bool := decide (a.1 < b.1) || (a.1 == b.1 && decide (a.2 < b.2))
theorem aheadI_iff (a b : In2) : aheadI a b = true ↔ a.1 < b.1 ∨ (a.1 = b.1 ∧ a.2 < b.2) := by
  unfold aheadI; simp
theorem aheadI_irrefl (a : In2) : aheadI a a = false := by unfold aheadI; simp
theorem aheadI_trans {a b c : In2} (h : aheadI a b = true) (k : aheadI b c = true) : aheadI a c = true := by
  rw [aheadI_iff] at *; omega
theorem aheadI_asymm {a b : In2} (h : aheadI a b = true) : aheadI b a = false := by
  cases k : aheadI b a with
  | false => rfl
  | true => rw [aheadI_iff] at h k; omega
theorem aheadI_total {a b : In2} (h : a ≠ b) : aheadI a b = true ∨ aheadI b a = true := by
  rw [aheadI_iff, aheadI_iff]
  by_cases e : a.1 = b.1
  · have : a.2 ≠ b.2 := fun e2 => h (Prod.ext e e2)
    omega
  · omega
def RiseI (l : List In2) : Prop := l.Pairwise fun a b => aheadI a b = true
theorem RiseI.nodup {l : List In2} (h : RiseI l) : l.Nodup := h.imp fun h e => by subst e; rw [aheadI_irrefl] at h; cases h
theorem riseI_ext : ∀ {l m : List In2}, RiseI l → RiseI m → (∀ x, x ∈ l ↔ x ∈ m) → l = m
  | [], [], _, _, _ => rfl
  | [], b :: m, _, _, h => by have := (h b).2 List.mem_cons_self; cases this
  | a :: l, [], _, _, h => by have := (h a).1 List.mem_cons_self; cases this
  | a :: l, b :: m, h1, h2, h => by
    unfold RiseI at h1 h2
    rw [List.pairwise_cons] at h1 h2
    have e : a = b := by
      rcases List.mem_cons.1 ((h a).1 List.mem_cons_self) with p | p
      · exact p
      · rcases List.mem_cons.1 ((h b).2 List.mem_cons_self) with q | q
        · exact q.symm
        · have h3 := h1.1 b q
          rw [aheadI_asymm (h2.1 a p)] at h3
          cases h3
    subst e
    rw [riseI_ext h1.2 h2.2 fun x => ?_]
    constructor
    · intro hx
      rcases List.mem_cons.1 ((h x).1 (List.mem_cons_of_mem _ hx)) with e | e
      · subst e; have h3 := h1.1 x hx; rw [aheadI_irrefl] at h3; cases h3
      · exact e
    · intro hx
      rcases List.mem_cons.1 ((h x).2 (List.mem_cons_of_mem _ hx)) with e | e
      · subst e; have h3 := h2.1 x hx; rw [aheadI_irrefl] at h3; cases h3
      · exact e
def rightI (i : In2) : Bool := decide (0 ≤ i.1 ∧ i.1 ≤ 6 ∧ 1 ≤ i.2 ∧ i.2 ≤ 10000)
section
variable {ks : List In2} {dp : In2 → List In2}
inductive Dp2 (ks : List In2) (dp : In2 → List In2) (a : In2) : In2 → Prop
  | one {b : In2} : a ∈ ks → b ∈ dp a → Dp2 ks dp a b
  | more {b c : In2} : Dp2 ks dp a b → b ∈ ks → c ∈ dp b → Dp2 ks dp a c
def Opn (ks : List In2) (dp : In2 → List In2) (a : In2) : Prop := a ∈ ks ∧ ∀ b, Dp2 ks dp a b → b ∈ ks
def Clo (ks : List In2) (dp : In2 → List In2) (X : In2 → Prop) : Prop := ∀ a ∈ ks, X a → ∀ d ∈ dp a, d ∈ ks ∧ X d
theorem Clo.way {X : In2 → Prop} (h : Clo ks dp X) {a b : In2} (ha : X a) (hw : Dp2 ks dp a b) : b ∈ ks ∧ X b := by
  induction hw with
  | one h1 h2 => exact h a h1 ha _ h2
  | more _ h1 h2 ih => exact h _ h1 ih.2 _ h2
theorem Clo.opn {X : In2 → Prop} (h : Clo ks dp X) {a : In2} (hk : a ∈ ks) (ha : X a) : Opn ks dp a := ⟨hk, fun b hb => (h.way ha hb).1⟩
theorem Opn.dep {a d : In2} (h : Opn ks dp a) (hd : d ∈ dp a) : Opn ks dp d := by
  have h1 : Dp2 ks dp a d := .one h.1 hd
  refine ⟨h.2 d h1, fun b hb => h.2 b ?_⟩
  induction hb with
  | one h2 h3 => exact .more h1 h2 h3
  | more _ h2 h3 ih => exact .more ih h2 h3
theorem Opn.clo (ks : List In2) (dp : In2 → List In2) : Clo ks dp (Opn ks dp) := fun a _ ha d hd => ⟨(ha.dep hd).1, ha.dep hd⟩
theorem Opn.more {ks' : List In2} {dp' : In2 → List In2} {a : In2} (h : Opn ks dp a) (hs : ∀ x ∈ ks, x ∈ ks' ∧ dp' x = dp x) : Opn ks' dp' a := by
  have key : ∀ b, Dp2 ks' dp' a b → Opn ks dp b := fun b hb => by
    induction hb with
    | one h1 h2 => rw [(hs a h.1).2] at h2; exact h.dep h2
    | @more b c h1 h2 h3 ih => rw [(hs b ih.1).2] at h3; exact ih.dep h3
  exact ⟨(hs a h.1).1, fun b hb => (hs b (key b hb).1).1⟩
end
structure GrK (ks : List In2) (dp : In2 → List In2) (G : List (List Int)) : Prop where
  len : G.length = ks.length
  row : ∀ (i : Nat) (hi : i < ks.length) (j : Nat) (hj : j < ks.length), (j : Int) ∈ gat G i ↔ ks[j] ∈ dp ks[i]
theorem GrK.stp {ks : List In2} {dp : In2 → List In2} {G H : List (List Int)} (h : GrK ks dp G) (k : GrK ks dp H) : stp G = stp H := by
  funext i j
  rw [Bool.eq_iff_iff, stp_iff, stp_iff, h.len, k.len]
  refine and_congr_right fun hi => and_congr_right fun hj => ?_
  rw [h.row i hi j hj, k.row i hi j hj]
theorem GrK.via {ks : List In2} {dp : In2 → List In2} {G H : List (List Int)} (h : GrK ks dp G) (k : GrK ks dp H) : via' G = via' H := by
  unfold via'
  rw [h.stp k, h.len, k.len]
structure GrW (ks W : List In2) (dp : In2 → List In2) (G : List (List Int)) : Prop where
  len : G.length = W.length + 1
  row : ∀ (i : Nat) (hi : i < W.length) (j : Nat) (hj : j < W.length), (j : Int) ∈ gat G i ↔ W[j] ∈ dp W[i]
  out : ∀ (i : Nat) (hi : i < W.length), (W.length : Int) ∈ gat G i ↔ ∃ d ∈ dp W[i], d ∉ ks
  last : gat G W.length = []
section
variable {ks W : List In2} {dp : In2 → List In2} {G : List (List Int)}
theorem GrW.open_iff (h : GrW ks W dp G) {X : In2 → Prop} (hX : Clo ks dp X) (hW : ∀ a, a ∈ W ↔ a ∈ ks ∧ ¬ X a) (i : Nat) (hi : i < W.length) (kl : List Bool) (hkl : kl = List.replicate W.length true) :
    openX G kl (i : Int) ↔ Opn ks dp W[i] := by
  have hu : ∀ b, unk kl b = false ↔ b < W.length := fun b => by
    subst hkl
    by_cases hb : b < W.length
    · rw [unk_in (by simpa using hb)]; simp [hb]
    · rw [unk_out (by simpa using hb)]; simp [hb]
  have hstp : ∀ a b, stp G a b = true → a < W.length := fun a b hab => by
    obtain ⟨h1, h2, h3⟩ := (stp_iff G a b).1 hab
    rw [h.len] at h1
    rcases Nat.lt_or_ge a W.length with c | c
    · exact c
    · obtain rfl : a = W.length := by omega
      rw [h.last] at h3; cases h3
  rw [openX_iff]
  constructor
  · rintro ⟨a, ha, e, h1, h2⟩
    obtain rfl : i = a := by omega
    refine ⟨((hW _).1 (List.getElem_mem hi)).1, ?_⟩
    -- each way stays in W or leaves it for what is executed
    have key : ∀ b, Dp2 ks dp W[i] b → b ∈ ks ∧ (X b ∨ ∃ (j : Nat) (hj : j < W.length), W[j] = b ∧ Tr (stp G) i j) := fun b hb => by
      have step : ∀ (c d : In2) (p : Nat) (hp : p < W.length), W[p] = c → (∀ q, stp G p q = true → Tr (stp G) i q) → d ∈ dp c → d ∈ ks ∧ (X d ∨ ∃ (j : Nat) (hj : j < W.length), W[j] = d ∧ Tr (stp G) i j) := fun c d p hp hc hq hd => by
        subst hc
        by_cases hdk : d ∈ ks
        · refine ⟨hdk, ?_⟩
          by_cases hxd : X d
          · exact .inl hxd
          · obtain ⟨j, hj, rfl⟩ := List.mem_iff_getElem.1 ((hW d).2 ⟨hdk, hxd⟩)
            refine .inr ⟨j, hj, rfl, hq j ((stp_iff G p j).2 ⟨by rw [h.len]; omega, by rw [h.len]; omega, (h.row p hp j hj).2 hd⟩)⟩
        · exfalso
          have h3 : stp G p W.length = true := (stp_iff G p _).2 ⟨by rw [h.len]; omega, by rw [h.len]; omega, (h.out p hp).2 ⟨d, hd, hdk⟩⟩
          have h4 := (hu _).1 (h2 _ (hq _ h3))
          omega
      induction hb with
      | one _ hd => exact step _ _ i hi rfl (fun q hq => .one hq) hd
      | @more b c _ hb1 hd ih =>
        rcases ih.2 with hx | ⟨j, hj, rfl, ht⟩
        · obtain ⟨h5, h6⟩ := hX b hb1 hx c hd
          exact ⟨h5, .inl h6⟩
        · exact step _ _ j hj rfl (fun q hq => .more ht hq) hd
    exact fun b hb => (key b hb).1
  · intro ho
    refine ⟨i, by rw [h.len]; omega, rfl, (hu i).2 hi, fun b hb => (hu b).2 ?_⟩
    have key : ∃ hb : b < W.length, Opn ks dp W[b] := by
      have step : ∀ (p : Nat) (hp : p < W.length) (q : Nat), Opn ks dp W[p] → stp G p q = true → ∃ hq : q < W.length, Opn ks dp W[q] := fun p hp q hop hs => by
        obtain ⟨h1, h2, h3⟩ := (stp_iff G p q).1 hs
        rw [h.len] at h2
        rcases Nat.lt_or_ge q W.length with c | c
        · exact ⟨c, hop.dep ((h.row p hp q c).1 h3)⟩
        · obtain rfl : q = W.length := by omega
          obtain ⟨d, hd, hdk⟩ := (h.out p hp).1 h3
          exact absurd (hop.dep hd).1 hdk
      induction hb with
      | one hs => exact step i hi _ ho hs
      | more _ hs ih => exact step _ ih.1 _ ih.2 hs
    exact key.1
end
structure GrD (ks : List In2) (dp : In2 → List In2) (G : List (List Int)) : Prop where
  len : ks.length ≤ G.length
  row : ∀ (i : Nat) (hi : i < ks.length) (j : Nat) (hj : j < ks.length), (j : Int) ∈ gat G i ↔ ks[j] ∈ dp ks[i]
  out : ∀ (i : Nat) (hi : i < ks.length), (∃ j, ks.length ≤ j ∧ j < G.length ∧ (j : Int) ∈ gat G i) ↔ ∃ d ∈ dp ks[i], d ∉ ks
  last : ∀ j, ks.length ≤ j → gat G j = []
theorem GrD.open_iff {ks : List In2} {dp : In2 → List In2} {G : List (List Int)} (h : GrD ks dp G) (i : Nat) (hi : i < ks.length) (kl : List Bool) (hkl : kl = List.replicate ks.length true) :
    openX G kl (i : Int) ↔ Opn ks dp ks[i] := by
  have hlen := h.len
  have hu : ∀ b, unk kl b = false ↔ b < ks.length := fun b => by
    subst hkl
    by_cases hb : b < ks.length
    · rw [unk_in (by simpa using hb)]; simp [hb]
    · rw [unk_out (by simpa using hb)]; simp [hb]
  rw [openX_iff]
  constructor
  · rintro ⟨a, ha, e, h1, h2⟩
    obtain rfl : i = a := by omega
    refine ⟨List.getElem_mem hi, ?_⟩
    have key : ∀ b, Dp2 ks dp ks[i] b → ∃ (j : Nat) (hj : j < ks.length), ks[j] = b ∧ Tr (stp G) i j := fun b hb => by
      have step : ∀ (c d : In2) (p : Nat) (hp : p < ks.length), ks[p] = c → (∀ q, stp G p q = true → Tr (stp G) i q) → d ∈ dp c → ∃ (j : Nat) (hj : j < ks.length), ks[j] = d ∧ Tr (stp G) i j := fun c d p hp hc hq hd => by
        subst hc
        by_cases hdk : d ∈ ks
        · obtain ⟨j, hj, rfl⟩ := List.mem_iff_getElem.1 hdk
          exact ⟨j, hj, rfl, hq j ((stp_iff G p j).2 ⟨by omega, by omega, (h.row p hp j hj).2 hd⟩)⟩
        · exfalso
          obtain ⟨j, hj1, hj2, hj3⟩ := (h.out p hp).2 ⟨d, hd, hdk⟩
          have h4 := (hu _).1 (h2 _ (hq _ ((stp_iff G p j).2 ⟨by omega, hj2, hj3⟩)))
          omega
      induction hb with
      | one _ hd => exact step _ _ i hi rfl (fun q hq => .one hq) hd
      | @more b c _ hb1 hd ih =>
        obtain ⟨j, hj, rfl, ht⟩ := ih
        exact step _ _ j hj rfl (fun q hq => .more ht hq) hd
    exact fun b hb => by
      obtain ⟨j, hj, rfl, _⟩ := key b hb
      exact List.getElem_mem hj
  · intro ho
    refine ⟨i, by omega, rfl, (hu i).2 hi, fun b hb => (hu b).2 ?_⟩
    have key : ∃ hb : b < ks.length, Opn ks dp ks[b] := by
      have step : ∀ (p : Nat) (hp : p < ks.length) (q : Nat), Opn ks dp ks[p] → stp G p q = true → ∃ hq : q < ks.length, Opn ks dp ks[q] := fun p hp q hop hs => by
        obtain ⟨h1, h2, h3⟩ := (stp_iff G p q).1 hs
        rcases Nat.lt_or_ge q ks.length with c | c
        · exact ⟨c, hop.dep ((h.row p hp q c).1 h3)⟩
        · obtain ⟨d, hd, hdk⟩ := (h.out p hp).1 ⟨q, c, h2, h3⟩
          exact absurd (hop.dep hd).1 hdk
      induction hb with
      | one hs => exact step i hi _ ho hs
      | more _ hs ih => exact step _ ih.1 _ ih.2 hs
    exact key.1
end Go.Proofs.YtcpgamidimfflaaGreat
