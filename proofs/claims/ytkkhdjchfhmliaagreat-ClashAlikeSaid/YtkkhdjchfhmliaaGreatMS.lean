/- Orders that do not clash may change places: the same is told of each, and the book is the same. In lists, of no walk. Orders that do not clash may change places: what an order looks at, and changes; lists that are alike tell the same. In lists, of no walk. -/
import Derived.Test.YtkkhdjchfhmliaaGreatMB
import Derived.Test.YtkkhdjchfhmliaaGreatClashM
namespace Go.Proofs.YtkkhdjchfhmliaaGreat
open Go.RowKit Go.My Go.Maps
set_option linter.unusedSimpArgs false
set_option linter.unusedVariables false

/-! ### lists that rise are told by what they hold -/
theorem pw_ext {α : Type} {R : α → α → Prop} (as_ : ∀ a b, R a b → ¬ R b a) : ∀ {l m : List α}, l.Pairwise R → m.Pairwise R → (∀ x, x ∈ l ↔ x ∈ m) → l = m
  | [], [], _, _, _ => rfl
  | [], c :: s, _, _, h => absurd ((h c).2 List.mem_cons_self) List.not_mem_nil
  | a :: r, [], _, _, h => absurd ((h a).1 List.mem_cons_self) List.not_mem_nil
  | a :: r, c :: s, hl, hm, h => by
    rw [List.pairwise_cons] at hl hm
    have e : a = c := by
      rcases List.mem_cons.1 ((h a).1 List.mem_cons_self) with e | h1
      · exact e
      · rcases List.mem_cons.1 ((h c).2 List.mem_cons_self) with e | h2
        · exact e.symm
        · exact absurd (hl.1 c h2) (as_ _ _ (hm.1 a h1))
    subst e
    have irr : ¬ R a a := fun k => as_ _ _ k k
    rw [pw_ext as_ hl.2 hm.2 fun x => ?_]
    constructor
    · intro hx
      rcases List.mem_cons.1 ((h x).1 (List.mem_cons_of_mem _ hx)) with e | h1
      · exact absurd (e ▸ hl.1 x hx) irr
      · exact h1
    · intro hx
      rcases List.mem_cons.1 ((h x).2 (List.mem_cons_of_mem _ hx)) with e | h1
      · exact absurd (e ▸ hm.1 x hx) irr
      · exact h1
theorem str_asymm {x y : List UInt8} (h : bytesBefore x y = true) : ¬ bytesBefore y x = true := fun k => by
  have h1 := before_lt _ _ h
  have h2 := before_lt _ _ k
  exact List.lt_irrefl x (List.lt_trans h1 h2)
theorem riseA_ext {S T : List Ac} (hS : Rise S) (hT : Rise T) (h : ∀ k, getA S k = getA T k) : S = T := by
  refine pw_ext (fun a b k1 k2 => str_asymm k1 k2) hS hT fun x => ?_
  constructor
  · intro hx
    have h1 := getA_mem hS hx
    rw [h] at h1
    exact (getA_some h1).1
  · intro hx
    have h1 := getA_mem hT hx
    rw [← h] at h1
    exact (getA_some h1).1
theorem riseH_ext {G H : List Hd} (hG : RiseH G) (hH : RiseH H) (h : ∀ k, ofH G k = ofH H k) : G = H := by
  refine pw_ext (fun a b k1 k2 => by have := hB_asymm k1; rw [k2] at this; cases this) hG hH fun x => ?_
  have e : ∀ (L : List Hd), x ∈ L ↔ x ∈ ofH L x.acct := fun L => by
    unfold ofH
    rw [List.mem_filter]
    simp
  rw [e G, e H, h]

/-! ### what a deed looks at, and what it changes -/
def AgS (T : List (List UInt8)) (S S' : List Ac) : Prop := ∀ k ∈ T, getA S k = getA S' k
def AgH (T : List (List UInt8)) (H H' : List Hd) : Prop := ∀ k ∈ T, ofH H k = ofH H' k
section
variable {f : Ac → Int} {g : Ac → Ac}
theorem act_loc {S S' : List Ac} {nm : List UInt8} (h : getA S nm = getA S' nm) : actE f S nm = actE f S' nm := by unfold actE; rw [h]
theorem act_far (hg : ∀ a, (g a).name = a.name) (S : List Ac) (nm : List UInt8) {k : List UInt8} (hk : k ≠ nm) : getA (actS f g S nm) k = getA S k := by
  unfold actS
  cases ha : getA S nm with
  | none => rfl
  | some a =>
    simp only
    split
    · exact getA_put_other S _ k (by rw [hg, (getA_some ha).2]; exact hk)
    · rfl
theorem act_at (hg : ∀ a, (g a).name = a.name) {S S' : List Ac} {nm : List UInt8} (h : getA S nm = getA S' nm) : getA (actS f g S nm) nm = getA (actS f g S' nm) nm := by
  unfold actS
  rw [← h]
  cases ha : getA S nm with
  | none => simp only; rw [ha, ← h, ha]
  | some a =>
    have hn : (g a).name = nm := by rw [hg, (getA_some ha).2]
    simp only
    split
    · have h1 := getA_put_same S (g a)
      have h2 := getA_put_same S' (g a)
      rw [hn] at h1 h2
      rw [h1, h2]
    · rw [ha, ← h, ha]
theorem act_cong (hg : ∀ a, (g a).name = a.name) {T : List (List UInt8)} {S S' : List Ac} {nm : List UInt8} (h : AgS T S S') (hm : nm ∈ T) : AgS T (actS f g S nm) (actS f g S' nm) := fun k hk => by
  by_cases e : k = nm
  · rw [e]
    exact act_at hg (h nm hm)
  · rw [act_far hg S nm e, act_far hg S' nm e]
    exact h k hk
theorem act_len (hg : ∀ a, (g a).name = a.name) {S : List Ac} (hr : Rise S) (nm : List UInt8) : (actS f g S nm).length = S.length := by
  unfold actS
  cases ha : getA S nm with
  | none => rfl
  | some a =>
    simp only
    split
    · rw [length_put _ _ hr, hg, (getA_some ha).2, ha]
      rfl
    · rfl
end
theorem giveN (x : Int) (a : Ac) : (giveA a x).name = a.name := by unfold giveA; split <;> rfl
theorem asdN (x : Int) (a : Ac) : (asideA a x).name = a.name := by unfold asideA; split <;> rfl
theorem asd_loc {S S' : List Ac} {nm : List UInt8} {x : Int} (h : getA S nm = getA S' nm) : asdE S nm x = asdE S' nm x := act_loc h
theorem asd_cong {T : List (List UInt8)} {S S' : List Ac} {nm : List UInt8} {x : Int} (h : AgS T S S') (hm : nm ∈ T) : AgS T (asdS S nm x) (asdS S' nm x) := act_cong (asdN x) h hm
theorem asd_far (S : List Ac) (nm : List UInt8) (x : Int) {k : List UInt8} (hk : k ≠ nm) : getA (asdS S nm x) k = getA S k := act_far (asdN x) S nm hk
theorem asd_len {S : List Ac} (hr : Rise S) (nm : List UInt8) (x : Int) : (asdS S nm x).length = S.length := act_len (asdN x) hr nm
theorem leg_cong {T : List (List UInt8)} {S S' : List Ac} {g : Lg} (h : AgS T S S') (hm : g.nm ∈ T) : AgS T (legS S g) (legS S' g) := by
  unfold legS
  rw [leg_same g (h _ hm)]
  split
  · exact act_cong (giveN _) h hm
  · exact h
theorem legs_cong {T : List (List UInt8)} : ∀ (L : List Lg) {S S' : List Ac}, AgS T S S' → (∀ g ∈ L, g.nm ∈ T) → legsE S L = legsE S' L ∧ AgS T (legsS S L) (legsS S' L)
  | [], S, S', h, _ => ⟨rfl, h⟩
  | g :: r, S, S', h, hm => by
    unfold legsE legsS
    rw [leg_same g (h _ (hm g List.mem_cons_self))]
    split
    · exact legs_cong r (leg_cong h (hm g List.mem_cons_self)) fun x hx => hm x (List.mem_cons_of_mem _ hx)
    · exact ⟨rfl, h⟩
theorem legs_far : ∀ (L : List Lg) (S : List Ac) {k : List UInt8}, (∀ g ∈ L, g.nm ≠ k) → getA (legsS S L) k = getA S k
  | [], S, k, _ => rfl
  | g :: r, S, k, h => by
    unfold legsS
    split
    · rw [legs_far r _ fun x hx => h x (List.mem_cons_of_mem _ hx), leg_other S g k (fun e => h g List.mem_cons_self e.symm)]
    · rfl
theorem legs_len : ∀ (L : List Lg) {S : List Ac}, Inv S → (legsS S L).length = S.length
  | [], S, _ => rfl
  | g :: r, S, h => by
    unfold legsS
    split
    · rw [legs_len r (inv_leg h g)]
      unfold legS
      split
      all_goals first | exact act_len (giveN _) h.rise _ | rfl
    · rfl
theorem make_cong {T : List (List UInt8)} {L : List Lg} {S S' : List Ac} (h : AgS T S S') (hm : ∀ g ∈ L, g.nm ∈ T) : checkE S L = checkE S' L ∧ AgS T (makeS S L) (makeS S' L) := by
  obtain ⟨h1, h2⟩ := legs_cong L h hm
  have hc : checkE S L = checkE S' L := by unfold checkE; rw [h1]
  refine ⟨hc, ?_⟩
  unfold makeS
  rw [hc]
  split
  · exact h2
  · exact h
theorem make_far {L : List Lg} {S : List Ac} {k : List UInt8} (h : ∀ g ∈ L, g.nm ≠ k) : getA (makeS S L) k = getA S k := by
  unfold makeS
  split
  · exact legs_far L S h
  · rfl
theorem make_len {L : List Lg} {S : List Ac} (h : Inv S) : (makeS S L).length = S.length := by
  unfold makeS
  split
  · exact legs_len L h
  · rfl
theorem open_cong {T : List (List UInt8)} {S S' : List Ac} {nm : List UInt8} {lim : Int} (h : AgS T S S') (hm : nm ∈ T) (hl : S.length = S'.length) : openE S nm lim = openE S' nm lim ∧ AgS T (openS S nm lim) (openS S' nm lim) := by
  have he : openE S nm lim = openE S' nm lim := by unfold openE; rw [h nm hm, hl]
  refine ⟨he, ?_⟩
  unfold openS
  rw [he]
  split
  · intro k hk
    by_cases e : k = nm
    · have h1 := getA_put_same S ⟨nm, 0, 0, lim⟩
      have h2 := getA_put_same S' ⟨nm, 0, 0, lim⟩
      simp only at h1 h2
      rw [e, h1, h2]
    · rw [getA_put_other S _ k e, getA_put_other S' _ k e]
      exact h k hk
  · exact h
theorem open_far (S : List Ac) (nm : List UInt8) (lim : Int) {k : List UInt8} (hk : k ≠ nm) : getA (openS S nm lim) k = getA S k := by
  unfold openS
  split
  · exact getA_put_other S _ k hk
  · rfl

/-! ### holds -/
theorem getH_of (H : List Hd) (a : List UInt8) (n : Int) : getH H a n = getH (ofH H a) a n := by
  unfold getH ofH
  rw [List.find?_filter]
  congr 1
  funext h
  unfold Hd.at
  cases h.acct == a <;> cases h.num == n <;> rfl
theorem getH_loc {H H' : List Hd} {a : List UInt8} (h : ofH H a = ofH H' a) (n : Int) : getH H a n = getH H' a n := by rw [getH_of H, getH_of H', h]
theorem ofH_ins_far (x : Hd) (H : List Hd) {k : List UInt8} (hk : k ≠ x.acct) : ofH (insH x H) k = ofH H k := by
  unfold ofH
  have hx : (x.acct == k) = false := beq_eq_false_iff_ne.2 fun e => hk e.symm
  induction H with
  | nil => simp [insH, hx]
  | cons b r ih =>
    unfold insH
    split
    · rw [List.filter_cons, hx]; rfl
    · rw [List.filter_cons, List.filter_cons, ih]
theorem ofH_ins_at (x : Hd) {H H' : List Hd} (hr : RiseH H) (hr' : RiseH H') (hn : getH H x.acct x.num = none) (h : ofH H x.acct = ofH H' x.acct) : ofH (insH x H) x.acct = ofH (insH x H') x.acct := by
  have hn' : getH H' x.acct x.num = none := by rw [← getH_loc h]; exact hn
  refine rise_perm_eq ?_ (rise_filter (rise_insH x H hr hn) _) (rise_filter (rise_insH x H' hr' hn') _)
  have p1 : (ofH (insH x H) x.acct).Perm (ofH (x :: H) x.acct) := (perm_insH x H).filter _
  have p2 : (ofH (insH x H') x.acct).Perm (ofH (x :: H') x.acct) := (perm_insH x H').filter _
  refine p1.trans (List.Perm.trans ?_ p2.symm)
  have e : ofH (x :: H) x.acct = x :: ofH H x.acct := by unfold ofH; rw [List.filter_cons]; simp
  have e' : ofH (x :: H') x.acct = x :: ofH H' x.acct := by unfold ofH; rw [List.filter_cons]; simp
  rw [e, e', h]
theorem ofH_del (H : List Hd) (a : List UInt8) (n : Int) (k : List UInt8) : ofH (delH H a n) k = (ofH H k).filter fun h => !h.at a n := by
  unfold ofH delH
  rw [List.filter_filter, List.filter_filter]
  congr 1
  funext h
  exact Bool.and_comm _ _
theorem ofH_del_far (H : List Hd) (a : List UInt8) (n : Int) {k : List UInt8} (hk : k ≠ a) : ofH (delH H a n) k = ofH H k := by
  rw [ofH_del, List.filter_eq_self]
  intro h hh
  unfold ofH at hh
  have h1 : h.acct = k := by simpa using (List.mem_filter.1 hh).2
  unfold Hd.at
  have : (h.acct == a) = false := beq_eq_false_iff_ne.2 (by rw [h1]; exact hk)
  rw [this]
  rfl
theorem put_loc {S S' : List Ac} {H H' : List Hd} {n x : Int} {a : List UInt8} (hs : getA S a = getA S' a) (hh : ofH H a = ofH H' a) : putE S H n a x = putE S' H' n a x := by
  unfold putE
  rw [getH_loc hh, hh, asd_loc hs]
theorem put_cong {T : List (List UInt8)} {S S' : List Ac} {H H' : List Hd} {n x : Int} {a : List UInt8} (hs : AgS T S S') (hh : AgH T H H') (hm : a ∈ T) (hr : RiseH H) (hr' : RiseH H') :
    AgS T (putSS S H n a x) (putSS S' H' n a x) ∧ AgH T (putHH S H n a x) (putHH S' H' n a x) := by
  have he : putE S H n a x = putE S' H' n a x := put_loc (hs a hm) (hh a hm)
  unfold putSS putHH
  by_cases h0 : putE S H n a x = 0
  · rw [if_pos h0, if_pos h0, ← he, if_pos h0, if_pos h0]
    refine ⟨asd_cong hs hm, fun k hk => ?_⟩
    by_cases e : k = a
    · subst e
      exact ofH_ins_at ⟨n, k, x⟩ hr hr' (put_zero h0).2.2.2.1 (hh k hk)
    · rw [ofH_ins_far _ _ e, ofH_ins_far _ _ e]
      exact hh k hk
  · rw [if_neg h0, if_neg h0, ← he, if_neg h0, if_neg h0]
    exact ⟨hs, hh⟩
theorem free_cong {T : List (List UInt8)} {S S' : List Ac} {H H' : List Hd} {n : Int} {a : List UInt8} (hs : AgS T S S') (hh : AgH T H H') (hm : a ∈ T) :
    freeE S H a n = freeE S' H' a n ∧ AgS T (freeSS S H a n) (freeSS S' H' a n) ∧ AgH T (freeHH S H a n) (freeHH S' H' a n) := by
  have hg := getH_loc (hh a hm) n
  have he : freeE S H a n = freeE S' H' a n := by
    unfold freeE
    rw [hg]
    cases getH H' a n with
    | none => rfl
    | some h => exact asd_loc (hs a hm)
  refine ⟨he, ?_, ?_⟩
  · unfold freeSS
    rw [hg]
    cases getH H' a n with
    | none => exact hs
    | some h => exact asd_cong hs hm
  · unfold freeHH
    rw [he]
    split
    · intro k hk
      rw [ofH_del, ofH_del, hh k hk]
    · exact hh
theorem take_cong {T : List (List UInt8)} {S S' : List Ac} {H H' : List Hd} {n x : Int} {a b : ByteArray} (hs : AgS T S S') (hh : AgH T H H') (hm : a.data.toList ∈ T) (hb : b.data.toList ∈ T) :
    takeE S H a n b x = takeE S' H' a n b x ∧ AgS T (takeSS S H a n b x) (takeSS S' H' a n b x) ∧ AgH T (takeHH S H a n b x) (takeHH S' H' a n b x) := by
  have hg := getH_loc (hh _ hm) n
  have hleg : ∀ g ∈ legsT a b x, g.nm ∈ T := fun g hg => by
    unfold legsT at hg
    simp only [List.mem_cons, List.not_mem_nil, or_false] at hg
    rcases hg with rfl | rfl
    · exact hm
    · exact hb
  have he : takeE S H a n b x = takeE S' H' a n b x := by
    unfold takeE
    rw [hg]
    cases getH H' a.data.toList n with
    | none => rfl
    | some h =>
      simp only
      rw [asd_loc (hs _ hm), (make_cong (asd_cong (x := -h.sum) hs hm) hleg).1]
  refine ⟨he, ?_, ?_⟩
  · unfold takeSS
    rw [he, hg]
    split
    · exact (make_cong (asd_cong hs hm) hleg).2
    · exact hs
  · unfold takeHH
    rw [he]
    split
    · intro k hk
      rw [ofH_del, ofH_del, hh k hk]
    · exact hh
end Go.Proofs.YtkkhdjchfhmliaaGreat

namespace Go.Proofs.YtkkhdjchfhmliaaGreat
open Go.RowKit Go.My Go.Maps
set_option linter.unusedSimpArgs false
set_option linter.unusedVariables false

/-- the accounts that an order that may be looks at -/
def names (o : Od) : List (List UInt8) := if o.kd = 2 then o.legs.map Lg.nm else if o.kd = 4 then [o.an, o.pn] else [o.an]
theorem name_ne {l : List UInt8} (h : nameB l = true) : l ≠ [] := by
  rintro rfl
  unfold nameB at h
  simp at h
theorem names_touch {o : Od} (hr : rightO o = true) (h6 : o.kd ≠ 6) : ∀ s ∈ names o, s ∈ touchL o := by
  have hm : ∀ s, s ∈ allN o o.legs.length → s ≠ [] → s ∈ touchL o := fun s h1 h2 => by
    unfold touchL
    rw [(upOf_spec _).2 s]
    unfold namesO
    rw [List.mem_filter]
    refine ⟨h1, ?_⟩
    cases s with
    | nil => exact absurd rfl h2
    | cons => rfl
  unfold rightO idB at hr
  simp only [Bool.and_eq_true, decide_eq_true_eq] at hr
  obtain ⟨h1, h2, ⟨h3, h4, h5, _⟩, ha, hp, hs, hl, hper, hh, hn⟩ := hr
  have han : o.kd ≠ 2 → nameB o.an = true := fun h => by
    unfold acctB at ha
    rw [if_neg (by rintro (e | e); exact h e; exact h6 e)] at ha
    exact ha
  intro s hs
  unfold names at hs
  split at hs
  · rename_i k
    unfold legsB at hl
    rw [if_pos k] at hl
    obtain ⟨g, hg, rfl⟩ := List.mem_map.1 hs
    refine hm _ ?_ ?_
    · unfold allN
      rw [List.take_length]
      exact List.mem_append_right _ (List.mem_map_of_mem hg)
    · unfold rightB at hl
      simp only [Bool.and_eq_true, List.all_eq_true] at hl
      exact name_ne (hl.1.2 g hg).1
  · rename_i k2
    split at hs
    · rename_i k4
      simp only [List.mem_cons, List.not_mem_nil, or_false] at hs
      rcases hs with rfl | rfl
      · exact hm _ (by unfold allN; simp) (name_ne (han k2))
      · unfold peerB at hp
        rw [if_pos k4, Bool.and_eq_true] at hp
        exact hm _ (by unfold allN; simp) (name_ne hp.1)
    · rw [List.mem_singleton] at hs
      subst hs
      exact hm _ (by unfold allN; simp) (name_ne (han k2))
theorem about_loc {S S' : List Ac} {nm : List UInt8} {e : Int} (h : getA S nm = getA S' nm) : aboutR S nm e = aboutR S' nm e := by
  unfold aboutR getV
  rw [h]
theorem eff_cong {b b' : Bk} {o : Od} (h6 : o.kd ≠ 6) (hs : AgS (names o) b.S b'.S) (hh : AgH (names o) b.H b'.H) (hc : b.cl = b'.cl) (hl : o.kd = 1 → b.S.length = b'.S.length) (r1 : RiseH b.H) (r2 : RiseH b'.H) :
    effR b o = effR b' o ∧ AgS (names o) (effB b o).S (effB b' o).S ∧ AgH (names o) (effB b o).H (effB b' o).H := by
  unfold effR effB
  by_cases k1 : o.kd = 1
  · have hm : o.an ∈ names o := by unfold names; rw [if_neg (by omega), if_neg (by omega)]; exact List.mem_cons_self
    rw [if_pos k1, if_pos k1, if_pos k1, if_pos k1]
    obtain ⟨e1, e2⟩ := open_cong (lim := o.sum) hs hm (hl k1)
    exact ⟨by rw [e1]; exact about_loc (e2 _ hm), e2, hh⟩
  rw [if_neg k1, if_neg k1, if_neg k1, if_neg k1]
  by_cases k2 : o.kd = 2
  · have hm : ∀ g ∈ o.legs, g.nm ∈ names o := fun g hg => by unfold names; rw [if_pos k2]; exact List.mem_map_of_mem hg
    rw [if_pos k2, if_pos k2, if_pos k2, if_pos k2, hc]
    obtain ⟨e1, e2⟩ := make_cong hs hm
    split
    · exact ⟨rfl, hs, hh⟩
    · exact ⟨by rw [e1], e2, hh⟩
  rw [if_neg k2, if_neg k2, if_neg k2, if_neg k2]
  by_cases k3 : o.kd = 3
  · have hm : o.an ∈ names o := by unfold names; rw [if_neg (by omega), if_neg (by omega)]; exact List.mem_cons_self
    rw [if_pos k3, if_pos k3, if_pos k3, if_pos k3]
    obtain ⟨e1, e2⟩ := put_cong (n := numO o) (x := o.sum) hs hh hm r1 r2
    exact ⟨by rw [put_loc (hs _ hm) (hh _ hm), about_loc (e1 _ hm)], e1, e2⟩
  rw [if_neg k3, if_neg k3, if_neg k3, if_neg k3]
  by_cases k4 : o.kd = 4
  · have hm : o.an ∈ names o := by unfold names; rw [if_neg (by omega), if_pos k4]; exact List.mem_cons_self
    have hp : o.pn ∈ names o := by unfold names; rw [if_neg (by omega), if_pos k4]; exact List.mem_cons_of_mem _ List.mem_cons_self
    rw [if_pos k4, if_pos k4, if_pos k4, if_pos k4, hc]
    obtain ⟨e0, e1, e2⟩ := take_cong (n := o.hold) (x := o.sum) (a := o.acct) (b := o.peer) hs hh hm hp
    split
    · exact ⟨rfl, hs, hh⟩
    · exact ⟨by rw [e0]; exact about_loc (e1 _ hm), e1, e2⟩
  rw [if_neg k4, if_neg k4, if_neg k4, if_neg k4]
  by_cases k5 : o.kd = 5
  · have hm : o.an ∈ names o := by unfold names; rw [if_neg (by omega), if_neg (by omega)]; exact List.mem_cons_self
    rw [if_pos k5, if_pos k5, if_pos k5, if_pos k5]
    obtain ⟨e0, e1, e2⟩ := free_cong (n := o.hold) hs hh hm
    exact ⟨by rw [e0]; exact about_loc (e1 _ hm), e1, e2⟩
  rw [if_neg k5, if_neg k5, if_neg k5, if_neg k5, if_neg h6, if_neg h6, if_neg h6, if_neg h6]
  have hm : o.an ∈ names o := by unfold names; rw [if_neg (by omega), if_neg (by omega)]; exact List.mem_cons_self
  exact ⟨about_loc (hs _ hm), hs, hh⟩
theorem eff_far {b : Bk} {o : Od} (h6 : o.kd ≠ 6) {k : List UInt8} (hk : k ∉ names o) : getA (effB b o).S k = getA b.S k ∧ ofH (effB b o).H k = ofH b.H k := by
  unfold effB
  by_cases k1 : o.kd = 1
  · have hm : k ≠ o.an := fun e => hk (by unfold names; rw [if_neg (by omega), if_neg (by omega), e]; exact List.mem_cons_self)
    rw [if_pos k1]
    exact ⟨open_far _ _ _ hm, rfl⟩
  rw [if_neg k1]
  by_cases k2 : o.kd = 2
  · have hm : ∀ g ∈ o.legs, g.nm ≠ k := fun g hg e => hk (by unfold names; rw [if_pos k2, ← e]; exact List.mem_map_of_mem hg)
    rw [if_pos k2]
    split
    · exact ⟨rfl, rfl⟩
    · exact ⟨make_far hm, rfl⟩
  rw [if_neg k2]
  by_cases k3 : o.kd = 3
  · have hm : k ≠ o.an := fun e => hk (by unfold names; rw [if_neg (by omega), if_neg (by omega), e]; exact List.mem_cons_self)
    rw [if_pos k3]
    unfold putSS putHH
    split
    · exact ⟨asd_far _ _ _ hm, ofH_ins_far _ _ hm⟩
    · exact ⟨rfl, rfl⟩
  rw [if_neg k3]
  by_cases k4 : o.kd = 4
  · have hm : k ≠ o.an := fun e => hk (by unfold names; rw [if_neg (by omega), if_pos k4, e]; exact List.mem_cons_self)
    have hp : k ≠ o.pn := fun e => hk (by unfold names; rw [if_neg (by omega), if_pos k4, e]; exact List.mem_cons_of_mem _ List.mem_cons_self)
    rw [if_pos k4]
    split
    · exact ⟨rfl, rfl⟩
    · unfold takeSS takeHH
      split
      · refine ⟨?_, ofH_del_far _ _ _ hm⟩
        simp only
        refine (make_far (fun g hg e => ?_)).trans (asd_far _ o.acct.data.toList _ hm)
        unfold legsT at hg
        simp only [List.mem_cons, List.not_mem_nil, or_false] at hg
        rcases hg with rfl | rfl
        · exact hm e.symm
        · exact hp e.symm
      · exact ⟨rfl, rfl⟩
  rw [if_neg k4]
  by_cases k5 : o.kd = 5
  · have hm : k ≠ o.an := fun e => hk (by unfold names; rw [if_neg (by omega), if_neg (by omega), e]; exact List.mem_cons_self)
    rw [if_pos k5]
    refine ⟨?_, ?_⟩
    · simp only
      unfold freeSS
      split
      · rfl
      · exact asd_far _ _ _ hm
    · simp only
      unfold freeHH
      split
      · exact ofH_del_far _ _ _ hm
      · rfl
  rw [if_neg k5, if_neg h6]
  exact ⟨rfl, rfl⟩
theorem eff_cl {b : Bk} {o : Od} (h6 : o.kd ≠ 6) : (effB b o).cl = b.cl := by
  unfold effB
  repeat' split
  all_goals first | rfl | (rename_i h _; exact absurd h h6) | (rename_i h; exact absurd h h6)
theorem eff_len {b : Bk} (hb : BkI b) {o : Od} (h1 : o.kd ≠ 1) : (effB b o).S.length = b.S.length := by
  have hI : Inv b.S := hb.st.kp.inv
  unfold effB
  rw [if_neg h1]
  by_cases k2 : o.kd = 2
  · rw [if_pos k2]
    split
    · rfl
    · exact make_len hI
  rw [if_neg k2]
  by_cases k3 : o.kd = 3
  · rw [if_pos k3]
    simp only
    unfold putSS
    split
    · exact asd_len hI.rise _ _
    · rfl
  rw [if_neg k3]
  by_cases k4 : o.kd = 4
  · rw [if_pos k4]
    split
    · rfl
    · simp only
      unfold takeSS
      split
      · rw [make_len (inv_aside hI _ _), asd_len hI.rise]
      · rfl
  rw [if_neg k4]
  by_cases k5 : o.kd = 5
  · rw [if_pos k5]
    simp only
    unfold freeSS
    split
    · rfl
    · exact asd_len hI.rise _ _
  rw [if_neg k5]
  split
  · split <;> rfl
  · rfl
/-- neighbours that do not clash -/
theorem do_swap {b : Bk} (hb : BkI b) {o p : Od} (ho : o.ok) (hp : p.ok) (hc : clashB o p = false) : doB (doB b o) p = doB (doB b p) o ∧ doR (doB b o) p = doR b p ∧ doR (doB b p) o = doR b o := by
  have hbo := do_inv hb ho
  have hbp := do_inv hb hp
  have hbop := do_inv hbo hp
  have hbpo := do_inv hbp ho
  unfold clashB at hc
  rw [Bool.or_eq_false_iff, decide_eq_false_iff_not] at hc
  obtain ⟨hn, hmt⟩ := hc
  simp only [not_or, not_and] at hn
  obtain ⟨_, o6, p6, h11⟩ := hn
  by_cases ro : rightO o = true
  · by_cases rp : rightO p = true
    · have hdis : ∀ s, s ∈ names o → s ∉ names p := fun s h1 h2 => by
        have := (meetL_iff _ _).2 ⟨s, names_touch ro o6 s h1, names_touch rp p6 s h2⟩
        rw [hmt] at this
        cases this
      unfold doB at hbo hbp hbop hbpo ⊢
      unfold doR
      rw [if_pos ro] at hbo hbpo ⊢
      rw [if_pos rp] at hbp hbop ⊢
      simp only [if_pos ro, if_pos rp] at hbop hbpo ⊢
      have cp := eff_cong (b := effB b o) (b' := b) (o := p) p6 (fun k hk => (eff_far o6 fun h => hdis k h hk).1) (fun k hk => (eff_far o6 fun h => hdis k h hk).2) (eff_cl o6) (fun h => eff_len hb fun e => h11 e h) hbo.st.rise hb.st.rise
      have co := eff_cong (b := effB b p) (b' := b) (o := o) o6 (fun k hk => (eff_far p6 fun h => hdis k hk h).1) (fun k hk => (eff_far p6 fun h => hdis k hk h).2) (eff_cl p6) (fun h => eff_len hb fun e => h11 h e) hbp.st.rise hb.st.rise
      refine ⟨?_, cp.1, co.1⟩
      have key : ∀ k, getA (effB (effB b o) p).S k = getA (effB (effB b p) o).S k ∧ ofH (effB (effB b o) p).H k = ofH (effB (effB b p) o).H k := fun k => by
        by_cases k1 : k ∈ names o
        · have k2 := hdis k k1
          have f1 := eff_far (b := effB b o) p6 k2
          exact ⟨f1.1.trans (co.2.1 k k1).symm, f1.2.trans (co.2.2 k k1).symm⟩
        · have f1 := eff_far (b := effB b p) o6 k1
          by_cases k2 : k ∈ names p
          · exact ⟨(cp.2.1 k k2).trans f1.1.symm, (cp.2.2 k k2).trans f1.2.symm⟩
          · have f2 := eff_far (b := effB b o) p6 k2
            have f3 := eff_far (b := b) o6 k1
            have f4 := eff_far (b := b) p6 k2
            exact ⟨(f2.1.trans f3.1).trans (f1.1.trans f4.1).symm, (f2.2.trans f3.2).trans (f1.2.trans f4.2).symm⟩
      have eS := riseA_ext hbop.st.kp.inv.rise hbpo.st.kp.inv.rise fun k => (key k).1
      have eH := riseH_ext hbop.st.rise hbpo.st.rise fun k => (key k).2
      have eC : (effB (effB b o) p).cl = (effB (effB b p) o).cl := by rw [eff_cl p6, eff_cl o6, eff_cl o6, eff_cl p6]
      generalize effB (effB b o) p = x at *
      generalize effB (effB b p) o = y at *
      obtain ⟨xS, xH, xc⟩ := x
      obtain ⟨yS, yH, yc⟩ := y
      simp only at eS eH eC
      rw [eS, eH, eC]
    · have e : ∀ b, doB b p = b := fun b => by unfold doB; rw [if_neg rp]
      have e2 : ∀ b, doR b p = errR 1 := fun b => by unfold doR; rw [if_neg rp]
      rw [e, e, e2, e2]
      exact ⟨rfl, rfl, rfl⟩
  · have e : ∀ b, doB b o = b := fun b => by unfold doB; rw [if_neg ro]
    have e2 : ∀ b, doR b o = errR 1 := fun b => by unfold doR; rw [if_neg ro]
    rw [e, e, e2, e2]
    exact ⟨rfl, rfl, rfl⟩

/-! ### lists that are alike -/
/-- each order with what is told of it -/
def pairs : Bk → List Od → List (Od × Rp)
  | _, [] => []
  | b, o :: r => (o, doR b o) :: pairs (doB b o) r
theorem pairs_get (b : Bk) (l : List Od) : ∀ i : Nat, (pairs b l)[i]? = match l[i]?, (foldR b l)[i]? with | some o, some r => some (o, r) | _, _ => none := by
  induction l generalizing b with
  | nil => intro i; rfl
  | cons o r ih =>
    intro i
    cases i with
    | zero => rfl
    | succ i => exact ih (doB b o) i
/-- an order goes ahead of those with which it does not clash -/
theorem fold_ahead {x : Od} (hx : x.ok) (q : List Od) : ∀ (p : List Od) {b : Bk}, BkI b → (∀ y ∈ p, y.ok ∧ clashB y x = false) → foldB b (p ++ x :: q) = foldB b (x :: (p ++ q)) ∧ (∀ z, z ∈ pairs b (p ++ x :: q) ↔ z ∈ pairs b (x :: (p ++ q)))
  | [], b, _, _ => ⟨rfl, fun _ => Iff.rfl⟩
  | y :: p, b, hb, h => by
    obtain ⟨hy, hc⟩ := h y List.mem_cons_self
    obtain ⟨e1, e2, e3⟩ := do_swap hb hy hx hc
    obtain ⟨i1, i2⟩ := fold_ahead hx q p (do_inv hb hy) fun z hz => h z (List.mem_cons_of_mem _ hz)
    constructor
    · show foldB (doB b y) (p ++ x :: q) = foldB (doB (doB b x) y) (p ++ q)
      rw [i1, ← e1]
      rfl
    · intro z
      show z ∈ (y, doR b y) :: pairs (doB b y) (p ++ x :: q) ↔ z ∈ (x, doR b x) :: (y, doR (doB b x) y) :: pairs (doB (doB b x) y) (p ++ q)
      rw [List.mem_cons, i2 z, e3, ← e1]
      show z = _ ∨ z ∈ (x, doR (doB b y) x) :: pairs (doB (doB b y) x) (p ++ q) ↔ _
      rw [e2, List.mem_cons, List.mem_cons, List.mem_cons]
      constructor
      · rintro (h | h | h)
        · exact .inr (.inl h)
        · exact .inl h
        · exact .inr (.inr h)
      · rintro (h | h | h)
        · exact .inr (.inl h)
        · exact .inl h
        · exact .inr (.inr h)
theorem fold_ak : ∀ (l m : List Od) {b : Bk}, BkI b → (∀ o ∈ l, o.ok) → Ak Od.id clashB l m → foldB b l = foldB b m ∧ ∀ z, z ∈ pairs b l ↔ z ∈ pairs b m
  | [], m, b, _, _, h => by
    have : m = [] := List.eq_nil_of_length_eq_zero h.1.symm
    subst this
    exact ⟨rfl, fun _ => Iff.rfl⟩
  | x :: l, m, b, hb, hok, h => by
    have hx := hok x List.mem_cons_self
    have hs := Ak.symm clashB_comm h
    obtain ⟨p, q, rfl⟩ := List.append_of_mem (h.2.2.2.1 x List.mem_cons_self)
    have hmok : ∀ y ∈ p ++ x :: q, y.ok := fun y hy => hok y (hs.2.2.2.1 y hy)
    have hpc : ∀ y ∈ p, y.ok ∧ clashB y x = false := fun y hy => by
      refine ⟨hmok y (List.mem_append_left _ hy), ?_⟩
      cases hc : clashB y x with
      | false => rfl
      | true =>
        have h1 := h.2.2.2.2 y x ((bef_append _ _ _ _).2 (.inr (.inl ⟨hy, List.mem_cons_self⟩))) hc List.mem_cons_self
        have h2 := (bef_mem h1).1
        have hnd := h.2.1.nodup
        rw [List.nodup_cons] at hnd
        have hyx : y = x := by
          rcases h1 with ⟨e, h3⟩ | h3
          · exact e.symm
          · exact absurd (bef_mem h3).2 hnd.1
        subst hyx
        have hnm := h.2.2.1.nodup
        rw [List.nodup_append] at hnm
        exact absurd rfl (hnm.2.2 y hy y List.mem_cons_self)
    obtain ⟨a1, a2⟩ := fold_ahead hx q p hb hpc
    have hak : Ak Od.id clashB l (p ++ q) := by
      have hl := h.1
      have r1 := h.2.1
      have r2 := h.2.2.1
      have n2 := r2.nodup
      have hperm : (p ++ x :: q).Perm (x :: (p ++ q)) := List.perm_middle
      have r3 := r2.perm hperm
      unfold Rt at r1 r3
      rw [List.map_cons, List.nodup_cons] at r1 r3
      have n3 := (hperm.nodup_iff).1 n2
      rw [List.nodup_cons] at n3
      have n1 := h.2.1.nodup
      rw [List.nodup_cons] at n1
      refine ⟨?_, r1.2, r3.2, fun o ho => ?_, fun u o hbf hc ho => ?_⟩
      · simp only [List.length_append, List.length_cons] at hl ⊢
        omega
      · have h1 := h.2.2.2.1 o (List.mem_cons_of_mem _ ho)
        have h2 := (hperm.mem_iff).1 h1
        rcases List.mem_cons.1 h2 with e | h3
        · exact absurd (e ▸ ho) n1.1
        · exact h3
      · have h1 : bef u o (p ++ x :: q) := by
          rw [bef_append] at hbf ⊢
          rcases hbf with h | ⟨h, h'⟩ | h
          · exact .inl h
          · exact .inr (.inl ⟨h, List.mem_cons_of_mem _ h'⟩)
          · exact .inr (.inr (.inr h))
        have h2 := h.2.2.2.2 u o h1 hc (List.mem_cons_of_mem _ ho)
        rcases h2 with ⟨e, _⟩ | h2
        · have h3 := (bef_mem hbf).1
          exact absurd (e ▸ h3) n3.1
        · exact h2
    obtain ⟨b1, b2⟩ := fold_ak l (p ++ q) (do_inv hb hx) (fun o ho => hok o (List.mem_cons_of_mem _ ho)) hak
    constructor
    · rw [a1]
      exact b1
    · intro z
      rw [a2 z]
      show z ∈ (x, doR b x) :: pairs (doB b x) l ↔ z ∈ (x, doR b x) :: pairs (doB b x) (p ++ q)
      rw [List.mem_cons, List.mem_cons, b2 z]
/-- the reply to an order, wherever it stands -/
theorem reply_ak {l m : List Od} {b : Bk} (hb : BkI b) (hok : ∀ o ∈ l, o.ok) (h : Ak Od.id clashB l m) {i k : Nat} {o : Od} (hi : l[i]? = some o) (hk : m[k]? = some o) : (foldR b l)[i]? = (foldR b m)[k]? := by
  have h2 := (fold_ak l m hb hok h).2
  have lenl : (foldR b l).length = l.length := foldR_length b l
  have lenm : (foldR b m).length = m.length := foldR_length b m
  obtain ⟨hil, -⟩ := List.getElem?_eq_some_iff.1 hi
  obtain ⟨hkl, hko⟩ := List.getElem?_eq_some_iff.1 hk
  have e1 : (pairs b l)[i]? = some (o, (foldR b l)[i]'(by omega)) := by
    rw [pairs_get, hi, List.getElem?_eq_getElem (by omega)]
  have m1 := (h2 _).1 (List.mem_of_getElem? e1)
  obtain ⟨j, hj, hje⟩ := List.mem_iff_getElem.1 m1
  have e2 : (pairs b m)[j]? = some (o, (foldR b l)[i]'(by omega)) := by rw [List.getElem?_eq_getElem hj, hje]
  rw [pairs_get] at e2
  cases hm : m[j]? with
  | none => rw [hm] at e2; cases e2
  | some y =>
    cases hf : (foldR b m)[j]? with
    | none => rw [hm, hf] at e2; cases e2
    | some r =>
      rw [hm, hf] at e2
      simp only [Option.some.injEq, Prod.mk.injEq] at e2
      obtain ⟨e3, e4⟩ := e2
      obtain ⟨hjl, hjo⟩ := List.getElem?_eq_some_iff.1 hm
      have : j = k := nodup_inj h.2.2.1.nodup hjl hkl (by rw [hjo, hko, e3])
      subst this
      rw [hf, e4, List.getElem?_eq_getElem (by omega)]
end Go.Proofs.YtkkhdjchfhmliaaGreat
