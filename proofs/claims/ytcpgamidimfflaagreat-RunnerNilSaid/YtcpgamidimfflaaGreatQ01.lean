/- Graphs, who reaches whom, knots, and what a walk depth first keeps: of no program. -/
set_option linter.unusedVariables false
set_option linter.unusedSimpArgs false
namespace Go.My
inductive Rch (G : Nat → List Nat) (a : Nat) : Nat → Prop
  | refl : Rch G a a
  | step {b c : Nat} : Rch G a b → c ∈ G b → Rch G a c
section
variable {G : Nat → List Nat} {a b c n : Nat}
theorem Rch.trans (h : Rch G a b) (k : Rch G b c) : Rch G a c := by
  induction k with
  | refl => exact h
  | step _ he ih => exact .step ih he
theorem Rch.one (h : b ∈ G a) : Rch G a b := .step .refl h
theorem Rch.stay {C : Nat → Prop} (h : Rch G a b) (hc : ∀ x, C x → ∀ y ∈ G x, C y) (ha : C a) : C b := by
  induction h with
  | refl => exact ha
  | step _ he ih => exact hc _ ih _ he
theorem Rch.lt (h : Rch G a b) (hG : ∀ x, x < n → ∀ y ∈ G x, y < n) (ha : a < n) : b < n := h.stay (C := fun x => x < n) hG ha
end
def Both (G : Nat → List Nat) (a b : Nat) : Prop := Rch G a b ∧ Rch G b a
structure IsKnot (G : Nat → List Nat) (K : List Nat) : Prop where
  up : K.Pairwise (· < ·)
  ne : K ≠ []
  all : ∀ x ∈ K, ∀ y, y ∈ K ↔ Both G x y
def upN {β : Type} (f : Nat → β) (a : Nat) (b : β) : Nat → β := fun x => if x = a then b else f x
theorem upN_at {β : Type} (f : Nat → β) (a : Nat) (b : β) : upN f a b a = b := if_pos rfl
theorem upN_ne {β : Type} (f : Nat → β) {a x : Nat} (b : β) (h : x ≠ a) : upN f a b x = f x := if_neg h
structure Ts where
  seen : Nat → Nat
  low : Nat → Nat
  met : Nat
  loose : List Nat
  found : List (List Nat)
structure TI (n : Nat) (G : Nat → List Nat) (s : Ts) (P : List (Nat × Nat)) : Prop where
  rng : ∀ x, s.seen x ≠ 0 → x < n
  le : ∀ x, s.seen x ≤ s.met
  inj : ∀ x y, s.seen x = s.seen y → s.seen x ≠ 0 → x = y
  ls : s.loose.Pairwise fun a b => s.seen a < s.seen b
  lseen : ∀ x ∈ s.loose, s.seen x ≠ 0
  pl : ∀ v k, (v, k) ∈ P → v ∈ s.loose
  pd : P.Pairwise fun a b => s.seen b.1 < s.seen a.1
  closed : ∀ x, s.seen x ≠ 0 → x ∉ s.loose → ∀ y ∈ G x, s.seen y ≠ 0 ∧ y ∉ s.loose
  fromG : ∀ g k, (g, k) ∈ P → ∀ x ∈ s.loose, s.seen g ≤ s.seen x → Rch G g x
  toG : ∀ x ∈ s.loose, ∃ g k, (g, k) ∈ P ∧ s.seen g ≤ s.seen x ∧ Rch G x g
  black : ∀ x ∈ s.loose, (∀ k, (x, k) ∉ P) → ∀ y ∈ G x, s.seen y ≠ 0
  next : ∀ v k, (v, k) ∈ P → k ≤ (G v).length ∧ ∀ y ∈ (G v).take k, s.seen y ≠ 0
  low1 : ∀ v k, (v, k) ∈ P → s.low v ≤ s.seen v ∧ ∃ y ∈ s.loose, s.seen y = s.low v ∧ Rch G v y
  low2 : ∀ v k, (v, k) ∈ P → ∀ y ∈ (G v).take k, y ∈ s.loose → s.low v ≤ s.seen y
  low3 : ∀ x ∈ s.loose, (∀ k, (x, k) ∉ P) → ∀ v k, (v, k) ∈ P → s.seen v ≤ s.seen x → (∀ g j, (g, j) ∈ P → s.seen g ≤ s.seen x → s.seen g ≤ s.seen v) → ∀ y ∈ G x, y ∈ s.loose → s.low v ≤ s.seen y
  fd : ∀ K ∈ s.found, IsKnot G K
  fmem : ∀ x, (s.seen x ≠ 0 ∧ x ∉ s.loose) ↔ ∃ K ∈ s.found, x ∈ K
  fnd : s.found.flatten.Nodup
section
variable {n : Nat} {G : Nat → List Nat} {s : Ts} {P R : List (Nat × Nat)}
theorem TI.none (n : Nat) (G : Nat → List Nat) : TI n G ⟨fun _ => 0, fun _ => 0, 0, [], []⟩ [] :=
  ⟨fun x h => absurd rfl h, fun x => Nat.le_refl _, fun x y _ h => absurd rfl h, List.Pairwise.nil, fun x h => by simp at h, fun v k h => by simp at h, List.Pairwise.nil,
    fun x h => absurd rfl h, fun g k h => by simp at h, fun x h => by simp at h, fun x h => by simp at h, fun v k h => by simp at h, fun v k h => by simp at h, fun v k h => by simp at h,
    fun x h => by simp at h, fun K h => by simp at h, fun x => by simp, by simp⟩
theorem TI.empty (h : TI n G s []) : s.loose = [] := by
  rcases hl : s.loose with _ | ⟨x, r⟩
  · rfl
  · obtain ⟨g, k, hg, _⟩ := h.toG x (by rw [hl]; exact List.mem_cons_self)
    simp at hg
theorem TI.nodup (h : TI n G s P) : s.loose.Nodup := h.ls.imp fun hab e => by subst e; omega
theorem TI.once (h : TI n G s P) {v j k : Nat} (h1 : (v, j) ∈ P) (h2 : (v, k) ∈ P) : j = k := by
  have := h.pd
  clear h
  induction P with
  | nil => cases h1
  | cons p r ih =>
    rw [List.pairwise_cons] at this
    rcases List.mem_cons.1 h1 with e1 | h1
    · rcases List.mem_cons.1 h2 with e2 | h2
      · rw [← e1] at e2
        injection e2 with _ e2
        exact e2.symm
      · have := this.1 _ h2
        rw [← e1] at this
        simp at this
    · rcases List.mem_cons.1 h2 with e2 | h2
      · have := this.1 _ h1
        rw [← e2] at this
        simp at this
      · exact ih h1 h2 this.2
def Ts.meet (s : Ts) (x : Nat) : Ts := ⟨upN s.seen x (s.met + 1), upN s.low x (s.met + 1), s.met + 1, s.loose ++ [x], s.found⟩
theorem TI.meet (h : TI n G s P) {x : Nat} (hx : x < n) (h0 : s.seen x = 0) (hP : ∀ g k, (g, k) ∈ P → Rch G g x) : TI n G (s.meet x) ((x, 0) :: P) := by
  have hxl : x ∉ s.loose := fun e => h.lseen x e h0
  have hne : ∀ y, s.seen y ≠ 0 → y ≠ x := fun y hy e => hy (e ▸ h0)
  have old : ∀ y, s.seen y ≠ 0 → (s.meet x).seen y = s.seen y := fun y hy => upN_ne _ _ (hne y hy)
  have oldl : ∀ y, y ∈ s.loose → (s.meet x).seen y = s.seen y := fun y hy => old y (h.lseen y hy)
  have new : (s.meet x).seen x = s.met + 1 := upN_at _ _ _
  have lowo : ∀ y, y ∈ s.loose → (s.meet x).low y = s.low y := fun y hy => upN_ne _ _ (hne y (h.lseen y hy))
  have lown : (s.meet x).low x = s.met + 1 := upN_at _ _ _
  have ml : ∀ y, y ∈ (s.meet x).loose ↔ y ∈ s.loose ∨ y = x := fun y => by unfold Ts.meet; simp
  have pne : ∀ v k, (v, k) ∈ P → v ≠ x := fun v k hv e => hxl (e ▸ h.pl v k hv)
  have sne : ∀ y, (s.meet x).seen y ≠ 0 ↔ s.seen y ≠ 0 ∨ y = x := fun y => by
    by_cases e : y = x
    · rw [e, new]; simp
    · have : (s.meet x).seen y = s.seen y := upN_ne _ _ e
      rw [this]; simp [e]
  have hlt : ∀ y, y ∈ s.loose → (s.meet x).seen y < (s.meet x).seen x := fun y hy => by
    rw [oldl y hy, new]
    have := h.le y
    omega
  have xm : x ∈ (s.meet x).loose := (ml x).2 (.inr rfl)
  refine ⟨fun y hy => ?_, fun y => ?_, fun y z e hy => ?_, ?_, fun y hy => ?_, fun v k hv => ?_, ?_, fun y hy hl => ?_, fun g k hg y hy hle => ?_, fun y hy => ?_, fun y hy hk => ?_, fun v k hv => ?_, fun v k hv => ?_, fun v k hv y hy hl => ?_, fun y hy hk v k hv hvy hlast z hz hzl => ?_, h.fd, fun y => ?_, h.fnd⟩
  · rcases (sne y).1 hy with h1 | rfl
    · exact h.rng y h1
    · exact hx
  · show (s.meet x).seen y ≤ s.met + 1
    by_cases e : y = x
    · rw [e, new]; exact Nat.le_refl _
    · rw [show (s.meet x).seen y = s.seen y from upN_ne _ _ e]
      exact Nat.le_succ_of_le (h.le y)
  · rcases (sne y).1 hy with h1 | rfl
    · rcases (sne z).1 (e ▸ hy) with h2 | rfl
      · rw [old y h1, old z h2] at e
        exact h.inj y z e h1
      · rw [old y h1, new] at e
        have := h.le y
        omega
    · rcases (sne z).1 (e ▸ hy) with h2 | rfl
      · rw [old z h2, new] at e
        have := h.le z
        omega
      · rfl
  · show (s.loose ++ [x]).Pairwise _
    rw [List.pairwise_append]
    refine ⟨h.ls.imp_of_mem fun ha hb hab => ?_, List.pairwise_singleton _ _, fun a ha b hb => ?_⟩
    · rw [oldl _ ha, oldl _ hb]; exact hab
    · rw [List.mem_singleton] at hb
      subst hb
      exact hlt a ha
  · rcases (ml y).1 hy with h1 | rfl
    · exact (sne y).2 (.inl (h.lseen y h1))
    · exact (sne y).2 (.inr rfl)
  · rcases List.mem_cons.1 hv with e | hv
    · injection e with e1 e2
      subst e1
      exact xm
    · exact (ml v).2 (.inl (h.pl v k hv))
  · rw [List.pairwise_cons]
    refine ⟨fun p hp => hlt p.1 (h.pl p.1 p.2 hp), h.pd.imp_of_mem fun ha hb hab => ?_⟩
    rw [oldl _ (h.pl _ _ ha), oldl _ (h.pl _ _ hb)]
    exact hab
  · have hl2 : y ∉ s.loose ∧ y ≠ x := ⟨fun e => hl ((ml y).2 (.inl e)), fun e => hl ((ml y).2 (.inr e))⟩
    have hy2 : s.seen y ≠ 0 := by
      rcases (sne y).1 hy with h1 | h1
      · exact h1
      · exact absurd h1 hl2.2
    intro z hz
    obtain ⟨h1, h2⟩ := h.closed y hy2 hl2.1 z hz
    refine ⟨(sne z).2 (.inl h1), fun e => ?_⟩
    rcases (ml z).1 e with h3 | h3
    · exact h2 h3
    · exact hne z h1 h3
  · rcases List.mem_cons.1 hg with e | hg
    · injection e with e1 e2
      subst e1
      rcases (ml y).1 hy with h1 | rfl
      · have := hlt y h1
        omega
      · exact .refl
    · rcases (ml y).1 hy with h1 | rfl
      · rw [oldl g (h.pl g k hg), oldl y h1] at hle
        exact h.fromG g k hg y h1 hle
      · exact hP g k (by assumption)
  · rcases (ml y).1 hy with h1 | rfl
    · obtain ⟨g, k, h2, h3, h4⟩ := h.toG y h1
      exact ⟨g, k, List.mem_cons_of_mem _ h2, by rw [oldl g (h.pl g k h2), oldl y h1]; exact h3, h4⟩
    · exact ⟨y, 0, List.mem_cons_self, Nat.le_refl _, .refl⟩
  · rcases (ml y).1 hy with h1 | rfl
    · intro z hz
      exact (sne z).2 (.inl (h.black y h1 (fun k hk2 => hk k (List.mem_cons_of_mem _ hk2)) z hz))
    · exact absurd List.mem_cons_self (hk 0)
  · rcases List.mem_cons.1 hv with e | hv
    · injection e with e1 e2
      subst e1
      subst e2
      exact ⟨Nat.zero_le _, fun y hy => by simp at hy⟩
    · obtain ⟨h1, h2⟩ := h.next v k hv
      exact ⟨h1, fun y hy => (sne y).2 (.inl (h2 y hy))⟩
  · rcases List.mem_cons.1 hv with e | hv
    · injection e with e1 e2
      subst e1
      exact ⟨by rw [lown, new]; exact Nat.le_refl _, v, xm, by rw [lown, new], .refl⟩
    · have hvl := h.pl v k hv
      obtain ⟨h1, y, h2, h3, h4⟩ := h.low1 v k hv
      exact ⟨by rw [lowo v hvl, oldl v hvl]; exact h1, y, (ml y).2 (.inl h2), by rw [oldl y h2, lowo v hvl]; exact h3, h4⟩
  · rcases List.mem_cons.1 hv with e | hv
    · injection e with e1 e2
      subst e1
      subst e2
      simp at hy
    · have hvl := h.pl v k hv
      have hys := (h.next v k hv).2 y hy
      rcases (ml y).1 hl with h1 | h1
      · rw [lowo v hvl, oldl y h1]
        exact h.low2 v k hv y hy h1
      · exact absurd h1 (hne y hys)
  · have hyP : ∀ k, (y, k) ∉ P := fun k hk2 => hk k (List.mem_cons_of_mem _ hk2)
    rcases (ml y).1 hy with h1 | rfl
    rotate_left
    · exact absurd List.mem_cons_self (hk 0)
    have hzs := h.black y h1 hyP z hz
    have hzl2 : z ∈ s.loose := by
      rcases (ml z).1 hzl with h2 | h2
      · exact h2
      · exact absurd h2 (hne z hzs)
    rcases List.mem_cons.1 hv with e | hv
    · injection e with e1 e2
      subst e1
      have := hlt y h1
      omega
    · have hvl := h.pl v k hv
      rw [lowo v hvl, oldl z hzl2]
      rw [oldl v hvl, oldl y h1] at hvy
      refine h.low3 y h1 hyP v k hv hvy (fun g j hg hgy => ?_) z hz hzl2
      have hgl := h.pl g j hg
      have := hlast g j (List.mem_cons_of_mem _ hg) (by rw [oldl g hgl, oldl y h1]; exact hgy)
      rw [oldl g hgl, oldl v hvl] at this
      exact this
  · rw [sne y, ml y]
    have h1 := h.fmem y
    constructor
    · rintro ⟨h2, h3⟩
      rw [not_or] at h3
      exact h1.1 ⟨by rcases h2 with h2 | h2; exact h2; exact absurd h2 h3.2, h3.1⟩
    · intro h2
      obtain ⟨h3, h4⟩ := h1.2 h2
      exact ⟨.inl h3, fun e => by rcases e with e | e; exact h4 e; exact hne y h3 e⟩
theorem TI.bump {A : List (Nat × Nat)} {v k : Nat} (h : TI n G s (A ++ (v, k) :: R)) (hk : k < (G v).length) (hs : s.seen (G v)[k] ≠ 0) (hl : (G v)[k] ∈ s.loose → s.low v ≤ s.seen (G v)[k]) : TI n G s (A ++ (v, k + 1) :: R) := by
  have m1 : ∀ g j, (g, j) ∈ A ++ (v, k + 1) :: R → (g = v ∧ j = k + 1) ∨ (g, j) ∈ A ++ (v, k) :: R := fun g j hg => by
    rw [List.mem_append, List.mem_cons] at hg ⊢
    rcases hg with h1 | h1 | h1
    · exact .inr (.inl h1)
    · injection h1 with a b
      exact .inl ⟨a, b⟩
    · exact .inr (.inr (.inr h1))
  have mv : (v, k) ∈ A ++ (v, k) :: R := List.mem_append_right _ List.mem_cons_self
  have m2 : ∀ g j, (g, j) ∈ A ++ (v, k) :: R → ∃ j', (g, j') ∈ A ++ (v, k + 1) :: R := fun g j hg => by
    rw [List.mem_append, List.mem_cons] at hg
    rcases hg with h1 | h1 | h1
    · exact ⟨j, List.mem_append_left _ h1⟩
    · injection h1 with a b
      subst a
      exact ⟨k + 1, List.mem_append_right _ List.mem_cons_self⟩
    · exact ⟨j, List.mem_append_right _ (List.mem_cons_of_mem _ h1)⟩
  have mo : ∀ g j, (g, j) ∈ A ++ (v, k + 1) :: R → ∃ j', (g, j') ∈ A ++ (v, k) :: R := fun g j hg => by
    rcases m1 g j hg with ⟨rfl, _⟩ | h1
    · exact ⟨k, mv⟩
    · exact ⟨j, h1⟩
  have mn : ∀ g, (∀ j, (g, j) ∉ A ++ (v, k + 1) :: R) → ∀ j, (g, j) ∉ A ++ (v, k) :: R := fun g hg j hj => by
    obtain ⟨j', h1⟩ := m2 g j hj
    exact hg j' h1
  have htk : (G v).take (k + 1) = (G v).take k ++ [(G v)[k]] := List.take_succ_eq_append_getElem hk
  refine ⟨h.rng, h.le, h.inj, h.ls, h.lseen, fun g j hg => ?_, ?_, h.closed, fun g j hg => ?_, fun x hx => ?_, fun x hx hxk => h.black x hx (mn x hxk), fun g j hg => ?_, fun g j hg => ?_, fun g j hg y hy hyl => ?_, fun x hx hxk g j hg hgx hlast => ?_, h.fd, h.fmem, h.fnd⟩
  · obtain ⟨j', h1⟩ := mo g j hg
    exact h.pl g j' h1
  · have hp := h.pd
    rw [List.pairwise_append, List.pairwise_cons] at hp ⊢
    refine ⟨hp.1, ⟨hp.2.1.1, hp.2.1.2⟩, fun a ha b hb => ?_⟩
    rcases List.mem_cons.1 hb with rfl | hb
    · exact hp.2.2 a ha (v, k) List.mem_cons_self
    · exact hp.2.2 a ha b (List.mem_cons_of_mem _ hb)
  · obtain ⟨j', h1⟩ := mo g j hg
    exact h.fromG g j' h1
  · obtain ⟨g, j, h1, h2⟩ := h.toG x hx
    obtain ⟨j', h3⟩ := m2 g j h1
    exact ⟨g, j', h3, h2⟩
  · rcases m1 g j hg with ⟨rfl, rfl⟩ | h1
    · refine ⟨hk, fun y hy => ?_⟩
      rw [htk, List.mem_append, List.mem_singleton] at hy
      rcases hy with hy | rfl
      · exact (h.next _ _ mv).2 y hy
      · exact hs
    · exact h.next g j h1
  · obtain ⟨j', h1⟩ := mo g j hg
    exact h.low1 g j' h1
  · rcases m1 g j hg with ⟨rfl, rfl⟩ | h1
    · rw [htk, List.mem_append, List.mem_singleton] at hy
      rcases hy with hy | rfl
      · exact h.low2 _ _ mv y hy hyl
      · exact hl hyl
    · exact h.low2 g j h1 y hy hyl
  · obtain ⟨j', h1⟩ := mo g j hg
    refine h.low3 x hx (mn x hxk) g j' h1 hgx fun g2 j2 hg2 hle => ?_
    obtain ⟨j3, h3⟩ := m2 g2 j2 hg2
    exact hlast g2 j3 h3 hle
def Ts.lower (s : Ts) (v a : Nat) : Ts := ⟨s.seen, upN s.low v (min (s.low v) a), s.met, s.loose, s.found⟩
theorem lower_le (s : Ts) (v a x : Nat) : (s.lower v a).low x ≤ s.low x := by
  by_cases e : x = v
  · rw [e, show (s.lower v a).low v = min (s.low v) a from upN_at _ _ _]
    exact Nat.min_le_left _ _
  · rw [show (s.lower v a).low x = s.low x from upN_ne _ _ e]
    exact Nat.le_refl _
theorem TI.lower {v k y : Nat} (h : TI n G s P) (hv : (v, k) ∈ P) (hy : y ∈ s.loose) (hr : Rch G v y) : TI n G (s.lower v (s.seen y)) P := by
  refine ⟨h.rng, h.le, h.inj, h.ls, h.lseen, h.pl, h.pd, h.closed, h.fromG, h.toG, h.black, h.next, fun g j hg => ?_, fun g j hg z hz hzl => ?_, fun x hx hxk g j hg hgx hlast z hz hzl => ?_, h.fd, h.fmem, h.fnd⟩
  · obtain ⟨h1, z, h2, h3, h4⟩ := h.low1 g j hg
    refine ⟨Nat.le_trans (lower_le s v _ g) h1, ?_⟩
    by_cases e : g = v
    · subst e
      have hl : (s.lower g (s.seen y)).low g = min (s.low g) (s.seen y) := upN_at _ _ _
      rw [hl]
      by_cases hle : s.low g ≤ s.seen y
      · exact ⟨z, h2, by rw [Nat.min_eq_left hle]; exact h3, h4⟩
      · exact ⟨y, hy, by rw [Nat.min_eq_right (by omega)]; rfl, hr⟩
    · have hl : (s.lower v (s.seen y)).low g = s.low g := upN_ne _ _ e
      rw [hl]
      exact ⟨z, h2, h3, h4⟩
  · exact Nat.le_trans (lower_le s v _ g) (h.low2 g j hg z hz hzl)
  · exact Nat.le_trans (lower_le s v _ g) (h.low3 x hx hxk g j hg hgx hlast z hz hzl)
theorem TI.pop {v u j : Nat} (h : TI n G s ((v, (G v).length) :: (u, j) :: R)) (hlow : s.low v < s.seen v) : TI n G (s.lower u (s.low v)) ((u, j) :: R) := by
  have hv : (v, (G v).length) ∈ (v, (G v).length) :: (u, j) :: R := List.mem_cons_self
  have hu : (u, j) ∈ (v, (G v).length) :: (u, j) :: R := List.mem_cons_of_mem _ List.mem_cons_self
  have up : ∀ {g k}, (g, k) ∈ (u, j) :: R → (g, k) ∈ (v, (G v).length) :: (u, j) :: R := fun hg => List.mem_cons_of_mem _ hg
  have hvl := h.pl _ _ hv
  have hpd := h.pd
  rw [List.pairwise_cons] at hpd
  have hvu : s.seen u < s.seen v := hpd.1 (u, j) List.mem_cons_self
  have hgv : ∀ g k, (g, k) ∈ (u, j) :: R → s.seen g < s.seen v ∧ s.seen g ≤ s.seen u := fun g k hg => by
    refine ⟨hpd.1 (g, k) hg, ?_⟩
    rcases List.mem_cons.1 hg with e | hg
    · injection e with e1 _
      rw [e1]
      exact Nat.le_refl _
    · rw [List.pairwise_cons] at hpd
      exact Nat.le_of_lt (hpd.2.1 (g, k) hg)
  have hgne : ∀ g k, (g, k) ∈ (u, j) :: R → g ≠ v := fun g k hg e => by
    have := (hgv g k hg).1
    rw [e] at this
    omega
  obtain ⟨_, y, hyl, hys, hyr⟩ := h.low1 _ _ hv
  have hvto : ∃ g k, (g, k) ∈ (u, j) :: R ∧ s.seen g < s.seen v ∧ Rch G v g := by
    obtain ⟨g, k, h1, h2, h3⟩ := h.toG y hyl
    rcases List.mem_cons.1 h1 with e | h1
    · injection e with e1 _
      subst e1
      omega
    · exact ⟨g, k, h1, (hgv g k h1).1, hyr.trans h3⟩
  have hur : Rch G u v := h.fromG u j hu v hvl (Nat.le_of_lt hvu)
  have blk : ∀ x ∈ s.loose, (∀ k, (x, k) ∉ (u, j) :: R) → x = v ∨ ∀ k, (x, k) ∉ (v, (G v).length) :: (u, j) :: R := fun x hx hxk => by
    by_cases e : x = v
    · exact .inl e
    · refine .inr fun k hk => ?_
      rcases List.mem_cons.1 hk with e1 | hk
      · injection e1 with e1 _
        exact e e1
      · exact hxk k hk
  have lowo : ∀ g, g ≠ u → (s.lower u (s.low v)).low g = s.low g := fun g e => upN_ne _ _ e
  have lowu : (s.lower u (s.low v)).low u = min (s.low u) (s.low v) := upN_at _ _ _
  refine ⟨h.rng, h.le, h.inj, h.ls, h.lseen, fun g k hg => h.pl g k (up hg), hpd.2, h.closed, fun g k hg => h.fromG g k (up hg), fun x hx => ?_, fun x hx hxk z hz => ?_, fun g k hg => h.next g k (up hg), fun g k hg => ?_, fun g k hg z hz hzl => ?_, fun x hx hxk g k hg hgx hlast z hz hzl => ?_, h.fd, h.fmem, h.fnd⟩
  · obtain ⟨g, k, h1, h2, h3⟩ := h.toG x hx
    rcases List.mem_cons.1 h1 with e | h1
    · injection e with e1 _
      subst e1
      obtain ⟨g2, k2, h4, h5, h6⟩ := hvto
      exact ⟨g2, k2, h4, Nat.le_trans (Nat.le_of_lt h5) h2, h3.trans h6⟩
    · exact ⟨g, k, h1, h2, h3⟩
  · rcases blk x hx hxk with rfl | hb
    · exact (h.next _ _ hv).2 z (by rw [List.take_length]; exact hz)
    · exact h.black x hx hb z hz
  · obtain ⟨h1, z, h2, h3, h4⟩ := h.low1 g k (up hg)
    refine ⟨Nat.le_trans (lower_le s u _ g) h1, ?_⟩
    by_cases e : g = u
    · subst e
      rw [lowu]
      by_cases hle : s.low g ≤ s.low v
      · exact ⟨z, h2, by rw [Nat.min_eq_left hle]; exact h3, h4⟩
      · exact ⟨y, hyl, by rw [Nat.min_eq_right (by omega)]; exact hys, hur.trans hyr⟩
    · rw [lowo g e]
      exact ⟨z, h2, h3, h4⟩
  · exact Nat.le_trans (lower_le s u _ g) (h.low2 g k (up hg) z hz hzl)
  · show (s.lower u (s.low v)).low g ≤ s.seen z
    have hgx : s.seen g ≤ s.seen x := hgx
    have hlast : ∀ g2 j2, (g2, j2) ∈ (u, j) :: R → s.seen g2 ≤ s.seen x → s.seen g2 ≤ s.seen g := hlast
    by_cases hxv : s.seen v ≤ s.seen x
    · have hgu : g = u := by
        have h1 := hlast u j List.mem_cons_self (by omega)
        have h2 := (hgv g k hg).2
        exact h.inj g u (by omega) (h.lseen g (h.pl g k (up hg)))
      subst hgu
      rw [lowu]
      refine Nat.le_trans (Nat.min_le_right _ _) ?_
      rcases blk x hx hxk with rfl | hb
      · exact h.low2 _ _ hv z (by rw [List.take_length]; exact hz) hzl
      · refine h.low3 x hx hb v _ hv hxv (fun g2 j2 hg2 hle => ?_) z hz hzl
        rcases List.mem_cons.1 hg2 with e | hg2
        · injection e with e1 _
          rw [e1]
          exact Nat.le_refl _
        · exact Nat.le_of_lt (hgv g2 j2 hg2).1
    · rcases blk x hx hxk with rfl | hb
      · omega
      · refine Nat.le_trans (lower_le s u _ g) (h.low3 x hx hb g k (up hg) hgx (fun g2 j2 hg2 hle => ?_) z hz hzl)
        rcases List.mem_cons.1 hg2 with e | hg2
        · injection e with e1 _
          subst e1
          omega
        · exact hlast g2 j2 hg2 hle
theorem TI.pop_more {v : Nat} {k : Nat} (h : TI n G s ((v, k) :: R)) (hlow : s.low v < s.seen v) : ∃ u j R', R = (u, j) :: R' := by
  obtain ⟨_, y, hyl, hys, hyr⟩ := h.low1 v k List.mem_cons_self
  obtain ⟨g, j, h1, h2, h3⟩ := h.toG y hyl
  rcases List.mem_cons.1 h1 with e | h1
  · injection e with e1 _
    subst e1
    omega
  · cases R with
    | nil => cases h1
    | cons p r => exact ⟨p.1, p.2, r, rfl⟩
def Ts.tie (s : Ts) (A : List Nat) (K : List Nat) : Ts := ⟨s.seen, s.low, s.met, A, s.found ++ [K]⟩
theorem TI.tie {v : Nat} {A B K : List Nat} (h : TI n G s ((v, (G v).length) :: R)) (hlow : s.low v = s.seen v) (hl : s.loose = A ++ v :: B) (hK : K.Pairwise (· < ·)) (hKm : ∀ x, x ∈ K ↔ x ∈ v :: B) : TI n G (s.tie A K) R := by
  have hv : (v, (G v).length) ∈ (v, (G v).length) :: R := List.mem_cons_self
  have hvl := h.pl _ _ hv
  have up : ∀ {g k}, (g, k) ∈ R → (g, k) ∈ (v, (G v).length) :: R := fun hg => List.mem_cons_of_mem _ hg
  have hls := h.ls
  rw [hl, List.pairwise_append, List.pairwise_cons] at hls
  have hpd := h.pd
  rw [List.pairwise_cons] at hpd
  have inA : ∀ x, x ∈ A ↔ x ∈ s.loose ∧ s.seen x < s.seen v := fun x => by
    constructor
    · intro hx
      exact ⟨by rw [hl]; exact List.mem_append_left _ hx, hls.2.2 x hx v List.mem_cons_self⟩
    · rintro ⟨h1, h2⟩
      rw [hl] at h1
      rcases List.mem_append.1 h1 with h1 | h1
      · exact h1
      · rcases List.mem_cons.1 h1 with rfl | h1
        · omega
        · have := hls.2.1.1 x h1
          omega
  have inK : ∀ x, x ∈ K ↔ x ∈ s.loose ∧ s.seen v ≤ s.seen x := fun x => by
    rw [hKm]
    constructor
    · intro hx
      refine ⟨by rw [hl]; exact List.mem_append_right _ hx, ?_⟩
      rcases List.mem_cons.1 hx with rfl | hx
      · exact Nat.le_refl _
      · exact Nat.le_of_lt (hls.2.1.1 x hx)
    · rintro ⟨h1, h2⟩
      rw [hl] at h1
      rcases List.mem_append.1 h1 with h1 | h1
      · have := hls.2.2 x h1 v List.mem_cons_self
        omega
      · exact h1
  have hgv : ∀ g k, (g, k) ∈ R → s.seen g < s.seen v := fun g k hg => hpd.1 (g, k) hg
  have hvK : v ∈ K := (inK v).2 ⟨hvl, Nat.le_refl _⟩
  have fromv : ∀ x ∈ K, Rch G v x := fun x hx => h.fromG v _ hv x ((inK x).1 hx).1 ((inK x).1 hx).2
  have tov : ∀ x ∈ K, Rch G x v := fun x hx => by
    obtain ⟨g, k, h1, h2, h3⟩ := h.toG x ((inK x).1 hx).1
    refine h3.trans ?_
    rcases List.mem_cons.1 h1 with e | h1
    · injection e with e1 _
      rw [e1]
      exact .refl
    · exact h.fromG g k (up h1) v hvl (Nat.le_of_lt (hgv g k h1))
  have notR : ∀ x ∈ K, ∀ k, (x, k) ∉ R := fun x hx k hk => by
    have := hgv x k hk
    have := ((inK x).1 hx).2
    omega
  have edge : ∀ x ∈ K, ∀ y ∈ G x, s.seen y ≠ 0 ∧ (y ∈ s.loose → y ∈ K) := fun x hx y hy => by
    by_cases e : x = v
    · subst e
      have ht : y ∈ (G x).take (G x).length := by rw [List.take_length]; exact hy
      refine ⟨(h.next _ _ hv).2 y ht, fun hyl => (inK y).2 ⟨hyl, ?_⟩⟩
      have := h.low2 _ _ hv y ht hyl
      omega
    · have hxk : ∀ k, (x, k) ∉ (v, (G v).length) :: R := fun k hk => by
        rcases List.mem_cons.1 hk with e1 | hk
        · injection e1 with e1 _
          exact e e1
        · exact notR x hx k hk
      have hxl := ((inK x).1 hx).1
      refine ⟨h.black x hxl hxk y hy, fun hyl => (inK y).2 ⟨hyl, ?_⟩⟩
      have := h.low3 x hxl hxk v _ hv ((inK x).1 hx).2 (fun g j hg hle => by
        rcases List.mem_cons.1 hg with e1 | hg
        · injection e1 with e1 _
          rw [e1]
          exact Nat.le_refl _
        · exact Nat.le_of_lt (hgv g j hg)) y hy hyl
      omega
  have inAl : ∀ x, x ∈ A → x ∈ s.loose := fun x hx => ((inA x).1 hx).1
  have notA : ∀ x, x ∈ s.loose → x ∉ A → x ∈ K := fun x hx hn => (inK x).2 ⟨hx, by
    apply Classical.byContradiction
    intro hc
    exact hn ((inA x).2 ⟨hx, by omega⟩)⟩
  have KnA : ∀ x ∈ K, x ∉ A := fun x hx ha => by
    have h1 := ((inK x).1 hx).2
    have h2 := ((inA x).1 ha).2
    omega
  have clo : ∀ x, s.seen x ≠ 0 → x ∉ A → ∀ y ∈ G x, s.seen y ≠ 0 ∧ y ∉ A := fun x hx hn y hy => by
    by_cases hxl : x ∈ s.loose
    · have hxK := notA x hxl hn
      obtain ⟨h1, h2⟩ := edge x hxK y hy
      exact ⟨h1, fun ha => KnA y (h2 (inAl y ha)) ha⟩
    · obtain ⟨h1, h2⟩ := h.closed x hx hxl y hy
      exact ⟨h1, fun ha => h2 (inAl y ha)⟩
  have blk : ∀ x ∈ A, (∀ k, (x, k) ∉ R) → ∀ k, (x, k) ∉ (v, (G v).length) :: R := fun x hx hxk k hk => by
    rcases List.mem_cons.1 hk with e | hk
    · injection e with e1 _
      have := ((inA x).1 hx).2
      rw [e1] at this
      omega
    · exact hxk k hk
  have hIs : IsKnot G K := by
    refine ⟨hK, (fun e => by rw [e] at hvK; cases hvK), fun x hx y => ⟨fun hy => ⟨(tov x hx).trans (fromv y hy), (tov y hy).trans (fromv x hx)⟩, fun ⟨h1, h2⟩ => ?_⟩⟩
    have hst : ∀ a, (s.seen a ≠ 0 ∧ a ∉ A) → ∀ b ∈ G a, s.seen b ≠ 0 ∧ b ∉ A := fun a ha b hb => clo a ha.1 ha.2 b hb
    have hy := h1.stay (C := fun a => s.seen a ≠ 0 ∧ a ∉ A) hst ⟨h.lseen x ((inK x).1 hx).1, KnA x hx⟩
    apply Classical.byContradiction
    intro hn
    have hyl : y ∉ s.loose := fun e => hn (notA y e hy.2)
    have := h2.stay (C := fun a => s.seen a ≠ 0 ∧ a ∉ s.loose) (fun a ha b hb => h.closed a ha.1 ha.2 b hb) ⟨hy.1, hyl⟩
    exact this.2 ((inK x).1 hx).1
  refine ⟨h.rng, h.le, h.inj, hls.1, fun x hx => h.lseen x (inAl x hx), fun g k hg => (inA g).2 ⟨h.pl g k (up hg), hgv g k hg⟩, hpd.2, clo, fun g k hg x hx => h.fromG g k (up hg) x (inAl x hx), fun x hx => ?_, fun x hx hxk => h.black x (inAl x hx) (blk x hx hxk), fun g k hg => h.next g k (up hg), fun g k hg => ?_, fun g k hg y hy hyl => h.low2 g k (up hg) y hy (inAl y hyl), fun x hx hxk g k hg hgx hlast y hy hyl => ?_, fun L hL => ?_, fun x => ?_, ?_⟩
  · obtain ⟨g, k, h1, h2, h3⟩ := h.toG x (inAl x hx)
    rcases List.mem_cons.1 h1 with e | h1
    · injection e with e1 _
      subst e1
      have := ((inA x).1 hx).2
      omega
    · exact ⟨g, k, h1, h2, h3⟩
  · obtain ⟨h1, y, h2, h3, h4⟩ := h.low1 g k (up hg)
    refine ⟨h1, y, (inA y).2 ⟨h2, ?_⟩, h3, h4⟩
    have := hgv g k hg
    omega
  · refine h.low3 x (inAl x hx) (blk x hx hxk) g k (up hg) hgx (fun g2 j2 hg2 hle => ?_) y hy (inAl y hyl)
    rcases List.mem_cons.1 hg2 with e | hg2
    · injection e with e1 _
      subst e1
      have := ((inA x).1 hx).2
      omega
    · exact hlast g2 j2 hg2 hle
  · rcases List.mem_append.1 hL with hL | hL
    · exact h.fd L hL
    · rw [List.mem_singleton] at hL
      rw [hL]
      exact hIs
  · show (s.seen x ≠ 0 ∧ x ∉ A) ↔ ∃ L ∈ s.found ++ [K], x ∈ L
    constructor
    · rintro ⟨h1, h2⟩
      by_cases hxl : x ∈ s.loose
      · exact ⟨K, List.mem_append_right _ (List.mem_singleton.2 rfl), notA x hxl h2⟩
      · obtain ⟨L, h3, h4⟩ := (h.fmem x).1 ⟨h1, hxl⟩
        exact ⟨L, List.mem_append_left _ h3, h4⟩
    · rintro ⟨L, h1, h2⟩
      rcases List.mem_append.1 h1 with h1 | h1
      · obtain ⟨h3, h4⟩ := (h.fmem x).2 ⟨L, h1, h2⟩
        exact ⟨h3, fun e => h4 (inAl x e)⟩
      · rw [List.mem_singleton] at h1
        rw [h1] at h2
        exact ⟨h.lseen x ((inK x).1 h2).1, KnA x h2⟩
  · show (s.found ++ [K]).flatten.Nodup
    rw [List.flatten_append, List.nodup_append]
    refine ⟨h.fnd, ?_, fun a ha b hb e => ?_⟩
    · simp only [List.flatten_cons, List.flatten_nil, List.append_nil]
      exact hK.imp fun hab e => by subst e; omega
    · simp only [List.flatten_cons, List.flatten_nil, List.append_nil] at hb
      subst e
      obtain ⟨L, h1, h2⟩ := List.mem_flatten.1 ha
      exact ((h.fmem a).2 ⟨L, h1, h2⟩).2 ((inK a).1 hb).1
end
end Go.My
