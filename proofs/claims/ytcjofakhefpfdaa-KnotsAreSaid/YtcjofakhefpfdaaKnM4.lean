/- Knots in their order, of no program: who is mutual with whom, names (the least of a knot), who is free, the row of knots; what waits for what. -/
set_option linter.unusedVariables false
set_option linter.unusedSimpArgs false
namespace Go.My.Kn

/-- who reaches whom, by one step or more -/
structure Reach (n : Nat) (V : Nat → Nat → Bool) : Prop where
  tr : ∀ i j k, V i j = true → V j k = true → V i k = true
  lt : ∀ i j, V i j = true → i < n ∧ j < n

def mu (V : Nat → Nat → Bool) (i k : Nat) : Bool := k == i || (V i k && V k i)
/-- the knot of a node -/
def cls (n : Nat) (V : Nat → Nat → Bool) (i : Nat) : List Nat := (List.range n).filter fun k => mu V i k
/-- its least node -/
def nm (n : Nat) (V : Nat → Nat → Bool) (i : Nat) : Nat := (cls n V i).headD i
section
variable {n : Nat} {V : Nat → Nat → Bool}
theorem mu_iff (i k : Nat) : mu V i k = true ↔ k = i ∨ (V i k = true ∧ V k i = true) := by
  unfold mu; simp only [Bool.or_eq_true, beq_iff_eq, Bool.and_eq_true]
theorem mu_self (i : Nat) : mu V i i = true := (mu_iff i i).2 (.inl rfl)
theorem mu_symm {i k : Nat} (h : mu V i k = true) : mu V k i = true := by
  rw [mu_iff] at h ⊢
  rcases h with rfl | ⟨a, b⟩
  · exact .inl rfl
  · exact .inr ⟨b, a⟩
theorem mu_trans (h : Reach n V) {i j k : Nat} (a : mu V i j = true) (b : mu V j k = true) : mu V i k = true := by
  rw [mu_iff] at a b ⊢
  rcases a with rfl | ⟨a, a'⟩
  · exact b
  · rcases b with rfl | ⟨b, b'⟩
    · exact .inr ⟨a, a'⟩
    · exact .inr ⟨h.tr _ _ _ a b, h.tr _ _ _ b' a'⟩
theorem mem_cls (i k : Nat) : k ∈ cls n V i ↔ k < n ∧ mu V i k = true := by
  unfold cls; rw [List.mem_filter, List.mem_range]
theorem self_cls {i : Nat} (h : i < n) : i ∈ cls n V i := (mem_cls i i).2 ⟨h, mu_self i⟩
theorem cls_up (i : Nat) : (cls n V i).Pairwise (· < ·) := List.pairwise_lt_range.filter _
theorem cls_eq (h : Reach n V) {i k : Nat} (hk : mu V i k = true) : cls n V i = cls n V k := by
  unfold cls
  apply List.filter_congr
  intro x _
  apply Bool.eq_iff_iff.2
  exact ⟨fun hx => mu_trans h (mu_symm hk) hx, fun hx => mu_trans h hk hx⟩
theorem nm_cls {i : Nat} (h : i < n) : nm n V i ∈ cls n V i ∧ ∀ k ∈ cls n V i, nm n V i ≤ k := by
  have hs := self_cls (V := V) h
  have hu := cls_up (n := n) (V := V) i
  unfold nm
  cases hc : cls n V i with
  | nil => rw [hc] at hs; cases hs
  | cons a r =>
    rw [hc, List.pairwise_cons] at hu
    refine ⟨List.mem_cons_self, fun k hk => ?_⟩
    rcases List.mem_cons.1 hk with rfl | hk
    · exact Nat.le_refl _
    · exact Nat.le_of_lt (hu.1 k hk)
theorem nm_lt {i : Nat} (h : i < n) : nm n V i < n := ((mem_cls _ _).1 (nm_cls (V := V) h).1).1
theorem nm_mut {i : Nat} (h : i < n) : mu V i (nm n V i) = true := ((mem_cls _ _).1 (nm_cls (V := V) h).1).2
theorem nm_le {i : Nat} (h : i < n) : nm n V i ≤ i := (nm_cls (V := V) h).2 i (self_cls h)
theorem nm_eq (h : Reach n V) {i k : Nat} (hi : i < n) (hk : k < n) : nm n V i = nm n V k ↔ mu V i k = true := by
  constructor
  · intro e
    have h1 := nm_mut (V := V) hi
    have h2 := mu_symm (nm_mut (V := V) hk)
    rw [e] at h1
    exact mu_trans h h1 h2
  · intro hm
    unfold nm
    rw [cls_eq h hm]
    have hs := self_cls (V := V) hk
    cases hc : cls n V k with
    | nil => rw [hc] at hs; cases hs
    | cons a r => rfl
theorem nm_nm (h : Reach n V) {i : Nat} (hi : i < n) : nm n V (nm n V i) = nm n V i := ((nm_eq h (nm_lt hi) hi).2 (mu_symm (nm_mut hi)))

/-- which may come next: D are the names of the knots that are done -/
def Free (n : Nat) (V : Nat → Nat → Bool) (D : List Nat) (i : Nat) : Prop := i < n ∧ nm n V i ∉ D ∧ ∀ k, V i k = true → V k i = false → nm n V k ∈ D
/-- the row of knots from there on -/
inductive KnSeq (n : Nat) (V : Nat → Nat → Bool) : List Nat → List (List Nat) → Prop
  | nil {D : List Nat} : (∀ i, ¬ Free n V D i) → KnSeq n V D []
  | cons {D : List Nat} {L : List (List Nat)} (i : Nat) : Free n V D i → (∀ j, j < i → ¬ Free n V D j) → KnSeq n V (i :: D) L → KnSeq n V D (cls n V i :: L)
theorem KnSeq.det {D : List Nat} {L M : List (List Nat)} (h : KnSeq n V D L) (k : KnSeq n V D M) : L = M := by
  induction h generalizing M with
  | nil h => cases k with
    | nil => rfl
    | cons i hf => exact absurd hf (h i)
  | cons i hf hl _ ih => cases k with
    | nil h => exact absurd hf (h i)
    | cons j hg hm hk =>
      have : i = j := by
        rcases Nat.lt_trichotomy i j with c | c | c
        · exact absurd hf (hm i c)
        · exact c
        · exact absurd hg (hl j c)
      subst this
      rw [ih hk]
/-- what is free has a name that is free -/
theorem Free.name (h : Reach n V) {D : List Nat} {i : Nat} (hf : Free n V D i) : Free n V D (nm n V i) := by
  obtain ⟨h1, h2, h3⟩ := hf
  refine ⟨nm_lt h1, by rw [nm_nm h h1]; exact h2, fun k hk hk2 => ?_⟩
  have hm := nm_mut (V := V) h1
  rw [mu_iff] at hm
  rcases hm with e | ⟨a, b⟩
  · rw [e] at hk hk2; exact h3 k hk hk2
  · refine h3 k (h.tr _ _ _ a hk) ?_
    cases hv : V k i with
    | false => rfl
    | true => rw [h.tr _ _ _ hv a] at hk2; cases hk2
/-- the least that is free is its own name -/
theorem least_name (h : Reach n V) {D : List Nat} {i : Nat} (hf : Free n V D i) (hl : ∀ j, j < i → ¬ Free n V D j) : nm n V i = i := by
  have := nm_le (V := V) hf.1
  rcases Nat.lt_or_ge (nm n V i) i with c | c
  · exact absurd (hf.name h) (hl _ c)
  · omega

/-! ### what is done is closed -/
def Shut (n : Nat) (V : Nat → Nat → Bool) (D : List Nat) : Prop := ∀ i k, i < n → nm n V i ∈ D → V i k = true → nm n V k ∈ D
theorem Shut.nil : Shut n V [] := fun i k _ hi => by cases hi
theorem Shut.cons (h : Reach n V) {D : List Nat} {a : Nat} (hs : Shut n V D) (hf : Free n V D a) (ha : nm n V a = a) : Shut n V (a :: D) := by
  intro i k hi hm hv
  rcases List.mem_cons.1 hm with e | hm
  · have hia : mu V a i = true := (nm_eq h hf.1 hi).1 (by rw [ha, e])
    by_cases hk : mu V a k = true
    · have := (nm_eq h hf.1 (h.lt _ _ hv).2).2 hk
      rw [ha] at this
      rw [← this]; exact List.mem_cons_self
    · have hak : V a k = true := by
        rw [mu_iff] at hia
        rcases hia with rfl | ⟨x, _⟩
        · exact hv
        · exact h.tr _ _ _ x hv
      refine List.mem_cons_of_mem _ (hf.2.2 k hak ?_)
      cases hka : V k a with
      | false => rfl
      | true => exact absurd ((mu_iff a k).2 (.inr ⟨hak, hka⟩)) hk
  · exact List.mem_cons_of_mem _ (hs i k hi hm hv)
end

/-! ### what waits for what -/
/-- the steps R, and all ways by them -/
structure ReachR (n : Nat) (R V : Nat → Nat → Bool) : Prop extends Reach n V where
  one : ∀ i j, R i j = true → V i j = true
  ind : ∀ (i : Nat) (P : Nat → Prop), (∀ j, R i j = true → P j) → (∀ j k, V i j = true → P j → R j k = true → P k) → ∀ k, V i k = true → P k
/-- the rows of names that a name waits for -/
structure BtOk (n : Nat) (R V : Nat → Nat → Bool) (Bt : Nat → List Nat) : Prop where
  src : ∀ a b, b ∈ Bt a → ∃ u v, u < n ∧ nm n V u = a ∧ nm n V v = b ∧ R u v = true ∧ a ≠ b
  all : ∀ u v, R u v = true → nm n V u ≠ nm n V v → nm n V v ∈ Bt (nm n V u)
section
variable {n : Nat} {R V : Nat → Nat → Bool} {Bt : Nat → List Nat}
theorem ready_iff (h : ReachR n R V) (hb : BtOk n R V Bt) {D : List Nat} (hs : Shut n V D) {a : Nat} (ha : a < n) (hn : nm n V a = a) (hD : a ∉ D) : (∀ b ∈ Bt a, b ∈ D) ↔ Free n V D a := by
  constructor
  · intro hw
    refine ⟨ha, by rw [hn]; exact hD, fun k hk hk2 => ?_⟩
    have key : ∀ k, V a k = true → nm n V k = a ∨ nm n V k ∈ D := by
      refine h.ind a (fun k => nm n V k = a ∨ nm n V k ∈ D) (fun j hj => ?_) (fun j k hj hp hjk => ?_)
      · by_cases e : nm n V j = a
        · exact .inl e
        · refine .inr (hw _ ?_)
          have := hb.all a j hj (by rw [hn]; exact fun e2 => e e2.symm)
          rwa [hn] at this
      · by_cases e : nm n V k = a
        · exact .inl e
        · rcases hp with e2 | e2
          · refine .inr (hw _ ?_)
            have := hb.all j k hjk (by rw [e2]; exact fun e3 => e e3.symm)
            rwa [e2] at this
          · exact .inr (hs j k (h.lt _ _ (h.one _ _ hjk)).1 e2 (h.one _ _ hjk))
    rcases key k hk with e | e
    · exfalso
      have hm : mu V a k = true := (nm_eq h.toReach ha (h.lt _ _ hk).2).1 (by rw [hn, e])
      rcases (mu_iff a k).1 hm with rfl | ⟨_, x⟩
      · rw [hk] at hk2; cases hk2
      · rw [x] at hk2; cases hk2
    · exact e
  · rintro ⟨_, _, hf⟩ b hba
    obtain ⟨u, v, hu, e1, e2, e3, e4⟩ := hb.src a b hba
    have hvn := (h.lt _ _ (h.one _ _ e3)).2
    have hau : mu V a u = true := (nm_eq h.toReach ha hu).1 (by rw [hn, e1])
    have hav : V a v = true := by
      rcases (mu_iff a u).1 hau with rfl | ⟨x, _⟩
      · exact h.one _ _ e3
      · exact h.tr _ _ _ x (h.one _ _ e3)
    have hva : V v a = false := by
      cases hx : V v a with
      | false => rfl
      | true =>
        have := (nm_eq h.toReach ha hvn).2 ((mu_iff a v).2 (.inr ⟨hav, hx⟩))
        rw [hn, e2] at this
        exact absurd this e4
    rw [← e2]
    exact hf v hav hva

/-- of the names that a name waits for: those that are not done -/
def open_ (Bt : Nat → List Nat) (D : List Nat) (a : Nat) : Nat := ((Bt a).filter fun b => !D.contains b).length
theorem open_zero (D : List Nat) (a : Nat) : open_ Bt D a = 0 ↔ ∀ b ∈ Bt a, b ∈ D := by
  unfold open_
  rw [List.length_eq_zero_iff, List.filter_eq_nil_iff]
  simp
theorem open_cons (D : List Nat) {a : Nat} (ha : a ∉ D) (b : Nat) : open_ Bt D b = open_ Bt (a :: D) b + (Bt b).count a := by
  unfold open_
  generalize Bt b = l
  induction l with
  | nil => rfl
  | cons x l ih =>
    rw [List.filter_cons, List.filter_cons, List.count_cons]
    by_cases e : x = a
    · subst e
      have h1 : (!D.contains x) = true := by simpa using ha
      have h2 : (!(x :: D).contains x) = false := by simp
      rw [h1, h2]
      simp only [if_true, Bool.false_eq_true, if_false, List.length_cons, beq_self_eq_true]
      omega
    · have h2 : (!(a :: D).contains x) = (!D.contains x) := by simp [e]
      rw [h2]
      have h3 : (x == a) = false := by simpa using e
      rw [h3]
      cases hc : (!D.contains x)
      · simp only [Bool.false_eq_true, if_false]; omega
      · simp only [if_true, Bool.false_eq_true, if_false, List.length_cons]; omega

/-- what the walk over the names keeps; m b: so often b is still to be told of the name that is done last -/
structure KI (n : Nat) (V : Nat → Nat → Bool) (Bt : Nat → List Nat) (D : List Nat) (W : Nat → Nat) (H : List Nat) (m : Nat → Nat) : Prop where
  shut : Shut n V D
  waits : ∀ b, b < n → nm n V b = b → b ∉ D → W b = open_ Bt D b + m b
  heap : ∀ b, b ∈ H ↔ b < n ∧ nm n V b = b ∧ b ∉ D ∧ W b = 0
  once : H.Nodup
theorem KI.free (h : ReachR n R V) (hb : BtOk n R V Bt) {D : List Nat} {W : Nat → Nat} {H : List Nat} (k : KI n V Bt D W H fun _ => 0) {a : Nat} (ha : a ∈ H) : Free n V D a ∧ nm n V a = a := by
  obtain ⟨h1, h2, h3, h4⟩ := (k.heap a).1 ha
  refine ⟨(ready_iff h hb k.shut h1 h2 h3).1 ((open_zero D a).1 ?_), h2⟩
  have := k.waits a h1 h2 h3
  omega
theorem KI.mem (h : ReachR n R V) (hb : BtOk n R V Bt) {D : List Nat} {W : Nat → Nat} {H : List Nat} (k : KI n V Bt D W H fun _ => 0) {i : Nat} (hf : Free n V D i) : nm n V i ∈ H := by
  have hn := hf.name h.toReach
  have h1 := nm_nm (V := V) h.toReach hf.1
  have h2 : nm n V i ∉ D := hf.2.1
  refine (k.heap _).2 ⟨hn.1, h1, h2, ?_⟩
  rw [k.waits _ hn.1 h1 h2]
  have := (open_zero (Bt := Bt) D (nm n V i)).2 ((ready_iff h hb k.shut hn.1 h1 h2).2 hn)
  omega
/-- nothing is ready: nothing is free -/
theorem KI.none (h : ReachR n R V) (hb : BtOk n R V Bt) {D : List Nat} {W : Nat → Nat} (k : KI n V Bt D W [] fun _ => 0) (i : Nat) : ¬ Free n V D i := fun hf => by
  have := k.mem h hb hf
  cases this
/-- the least that is ready is the least that is free -/
theorem KI.least (h : ReachR n R V) (hb : BtOk n R V Bt) {D : List Nat} {W : Nat → Nat} {H : List Nat} (k : KI n V Bt D W H fun _ => 0) {a : Nat} (hm : ∀ b ∈ H, a ≤ b) (j : Nat) (hj : j < a) : ¬ Free n V D j := fun hf => by
  have h1 := hm _ (k.mem h hb hf)
  have h2 := nm_le (V := V) hf.1
  omega
/-- it is taken out -/
theorem KI.pop (h : ReachR n R V) (hb : BtOk n R V Bt) {D : List Nat} {W : Nat → Nat} {H H' : List Nat} (k : KI n V Bt D W H fun _ => 0) {a : Nat} (hp : H.Perm (a :: H')) : KI n V Bt (a :: D) W H' fun b => (Bt b).count a := by
  have ha : a ∈ H := hp.mem_iff.2 List.mem_cons_self
  obtain ⟨hf, hn⟩ := k.free h hb ha
  have hD := ((k.heap a).1 ha).2.2.1
  have hnd := hp.nodup_iff.1 k.once
  rw [List.nodup_cons] at hnd
  refine ⟨k.shut.cons h.toReach hf hn, fun b h1 h2 h3 => ?_, fun b => ?_, hnd.2⟩
  · have hbD : b ∉ D := fun e => h3 (List.mem_cons_of_mem _ e)
    rw [k.waits b h1 h2 hbD, open_cons D hD b]; omega
  · have hbm : b ∈ H ↔ b = a ∨ b ∈ H' := by rw [hp.mem_iff, List.mem_cons]
    constructor
    · intro hbh
      obtain ⟨h1, h2, h3, h4⟩ := (k.heap b).1 (hbm.2 (.inr hbh))
      refine ⟨h1, h2, fun e => ?_, h4⟩
      rcases List.mem_cons.1 e with rfl | e
      · exact hnd.1 hbh
      · exact h3 e
    · rintro ⟨h1, h2, h3, h4⟩
      rcases hbm.1 ((k.heap b).2 ⟨h1, h2, fun e => h3 (List.mem_cons_of_mem _ e), h4⟩) with rfl | e
      · exact absurd List.mem_cons_self h3
      · exact e
/-- one that waits for it is told -/
theorem KI.tell {D : List Nat} {W : Nat → Nat} {H : List Nat} {m : Nat → Nat} (k : KI n V Bt D W H m) {b : Nat} (hb1 : b < n) (hb2 : nm n V b = b) (hb3 : b ∉ D) (hm : 0 < m b) :
    0 < W b ∧ KI n V Bt D (fun x => if x = b then W b - 1 else W x) (if W b - 1 = 0 then b :: H else H) fun x => if x = b then m b - 1 else m x := by
  have hw := k.waits b hb1 hb2 hb3
  have hbH : b ∉ H := fun e => by have := ((k.heap b).1 e).2.2.2; omega
  refine ⟨by omega, k.shut, fun x h1 h2 h3 => ?_, fun x => ?_, ?_⟩
  · by_cases e : x = b
    · subst e; rw [if_pos rfl, if_pos rfl]; omega
    · rw [if_neg e, if_neg e]; exact k.waits x h1 h2 h3
  · by_cases e : x = b
    · subst e
      rw [if_pos rfl]
      split
      · rename_i hz
        exact ⟨fun _ => ⟨hb1, hb2, hb3, hz⟩, fun _ => List.mem_cons_self⟩
      · rename_i hz
        exact ⟨fun e => absurd e hbH, fun e => absurd e.2.2.2 hz⟩
    · rw [if_neg e]
      have : x ∈ (if W b - 1 = 0 then b :: H else H) ↔ x ∈ H := by
        split
        · rw [List.mem_cons]; exact ⟨fun h => h.resolve_left e, .inr⟩
        · exact Iff.rfl
      rw [this]; exact k.heap x
  · split
    · exact List.nodup_cons.2 ⟨hbH, k.once⟩
    · exact k.once
/-- the heap may stand in whatever row -/
theorem KI.perm {D : List Nat} {W : Nat → Nat} {H H' : List Nat} {m : Nat → Nat} (k : KI n V Bt D W H m) (hp : H.Perm H') : KI n V Bt D W H' m :=
  ⟨k.shut, k.waits, fun b => by rw [← hp.mem_iff]; exact k.heap b, hp.nodup_iff.1 k.once⟩
theorem KI.zero {D : List Nat} {W : Nat → Nat} {H : List Nat} {m : Nat → Nat} (k : KI n V Bt D W H m) (hm : ∀ b, b < n → m b = 0) : KI n V Bt D W H fun _ => 0 :=
  ⟨k.shut, fun b h1 h2 h3 => by rw [k.waits b h1 h2 h3, hm b h1], k.heap, k.once⟩
/-- who waits for what is done last is not done -/
theorem KI.not_done (h : ReachR n R V) (hb : BtOk n R V Bt) {D : List Nat} {W : Nat → Nat} {H : List Nat} {m : Nat → Nat} {a : Nat} (hs : Shut n V D) (haD : a ∉ D) (ha : a < n) (hn : nm n V a = a) {b : Nat} (hab : a ∈ Bt b) : b < n ∧ nm n V b = b ∧ b ∉ a :: D := by
  obtain ⟨u, v, hu, e1, e2, e3, e4⟩ := hb.src b a hab
  have hv := (h.lt _ _ (h.one _ _ e3)).2
  refine ⟨by rw [← e1]; exact nm_lt hu, by rw [← e1]; exact nm_nm h.toReach hu, fun hm => ?_⟩
  rcases List.mem_cons.1 hm with e | hm
  · exact e4 e
  · have := hs u v hu (by rw [e1]; exact hm) (h.one _ _ e3)
    rw [e2] at this
    exact haD this
end
end Go.My.Kn
