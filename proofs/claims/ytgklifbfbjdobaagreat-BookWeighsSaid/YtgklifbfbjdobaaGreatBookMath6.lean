/- All accounts of a book together have 0; what is set aside is what is held; an error changes nothing: in lists. -/
import Derived.Test.YtgklifbfbjdobaaGreatBookMath5
import Derived.Test.YtgklifbfbjdobaaGreatVouW
namespace Go.Proofs.YtgklifbfbjdobaaGreat
open Go.RowKit Go.My Go.Maps
set_option linter.unusedSimpArgs false
set_option linter.unusedVariables false

def stsA (S : List Ac) : List Int := S.map Ac.st
theorem perm_insA (a : Ac) : ∀ S : List Ac, (insA a S).Perm (a :: S)
  | [] => List.Perm.refl _
  | b :: r => by
    unfold insA
    split
    · exact List.Perm.refl _
    · exact (List.Perm.cons b (perm_insA a r)).trans (List.Perm.swap a b r)
theorem total_permI {l m : List Int} (h : l.Perm m) : total l = total m := by
  induction h with
  | nil => rfl
  | cons x _ ih => rw [total_cons, total_cons, ih]
  | swap x y l => rw [total_cons, total_cons, total_cons, total_cons]; omega
  | trans _ _ h1 h2 => exact h1.trans h2
theorem putA_new {S : List Ac} {a : Ac} (h : getA S a.name = none) : putA a S = insA a S := by
  unfold putA
  congr 1
  rw [List.filter_eq_self]
  intro b hb
  have := getA_none h b hb
  unfold Ac.key
  rw [same_str]
  simpa using this
theorem total_new {S : List Ac} {a : Ac} (h : getA S a.name = none) : total (hvs (putA a S)) = a.hv + total (hvs S) := by
  rw [putA_new h]
  have := total_permI (List.Perm.map Ac.hv (perm_insA a S))
  unfold hvs
  rw [this, List.map_cons, total_cons]
theorem total_act {S : List Ac} (hr : Rise S) {f : Ac → Int} {g : Ac → Ac} (hg : ∀ a, f a = 0 → (g a).name = a.name ∧ (g a).hv = a.hv) (nm : List UInt8) : total (hvs (actS f g S nm)) = total (hvs S) := by
  unfold actS
  cases hq : getA S nm with
  | none => rfl
  | some a =>
    simp only
    split
    · rename_i h0
      rw [total_put hr hq (hg a h0).1, (hg a h0).2]
      omega
    · rfl
theorem total_asd {S : List Ac} (hr : Rise S) (nm : List UInt8) (x : Int) : total (hvs (asdS S nm x)) = total (hvs S) :=
  total_act hr (fun a h => by
    unfold asideA
    rw [if_pos h]
    exact ⟨rfl, rfl⟩) nm
theorem total_make {S : List Ac} (hI : Inv S) (L : List Lg) : total (hvs (makeS S L)) = total (hvs S) := by
  by_cases h : checkE S L = 0
  · exact (make_weighs hI h).2
  · rw [make_err h]
/-- all accounts together -/
theorem do_total {b : Bk} (hI : BkI b) (o : Od) (h0 : total (hvs b.S) = 0) : total (hvs (doB b o).S) = 0 := by
  have hi := hI.st.kp.inv
  unfold doB
  split
  · unfold effB
    split
    · simp only
      unfold openS
      split
      · rename_i h1
        have hn : getA b.S o.an = none := by
          unfold openE at h1
          split at h1
          · cases h1
          · split at h1
            · cases h1
            · rename_i h2; simpa using h2
        rw [total_new (a := ⟨o.an, 0, 0, o.sum⟩) hn, h0]
        rfl
      · exact h0
    split
    · split
      · exact h0
      · simp only; rw [total_make hi]; exact h0
    split
    · simp only
      unfold putSS
      split
      · rw [total_asd hi.rise]; exact h0
      · exact h0
    split
    · split
      · exact h0
      · simp only
        unfold takeSS
        split
        · rw [total_make (inv_aside hi _ _), total_asd hi.rise]; exact h0
        · exact h0
    split
    · simp only
      unfold freeSS
      split
      · exact h0
      · rw [total_asd hi.rise]; exact h0
    split
    · split
      · exact h0
      · exact h0
    exact h0
  · exact h0
/-- one account's part -/
theorem pick_total {S : List Ac} (hr : Rise S) {nm : List UInt8} (x : Int) (h : (getA S nm).isSome = true) : total (S.map fun a => if nm = a.name then x else 0) = x := by
  induction S with
  | nil => cases h
  | cons a r ih =>
    obtain ⟨h1, h2⟩ := List.pairwise_cons.1 hr
    rw [List.map_cons, total_cons]
    by_cases e : nm = a.name
    · rw [if_pos e]
      have : total (r.map fun b => if nm = b.name then x else 0) = 0 := by
        have hz : ∀ b ∈ r, nm ≠ b.name := fun b hb e2 => by
          have h3 := h1 b hb
          have : a.name = b.name := e.symm.trans e2
          unfold Ac.key at h3
          rw [this] at h3
          have h4 := before_lt b.name b.name h3
          exact absurd h4 (List.lt_irrefl b.name)
        clear ih hr h h1 h2
        induction r with
        | nil => rfl
        | cons c r ih2 =>
          rw [List.map_cons, total_cons, if_neg (hz c List.mem_cons_self), ih2 fun b hb => hz b (List.mem_cons_of_mem _ hb)]
          rfl
      rw [this]
      omega
    · rw [if_neg e]
      have hs : (getA r nm).isSome = true := by
        unfold getA at h ⊢
        rw [List.find?_cons] at h
        have : (a.name == nm) = false := beq_eq_false_iff_ne.2 (fun e2 => e e2.symm)
        rw [this] at h
        exact h
      rw [ih h2 hs]
      omega
theorem total_zero {S : List Ac} : total (S.map fun _ => (0 : Int)) = 0 := by
  induction S with
  | nil => rfl
  | cons a r ih => rw [List.map_cons, total_cons, ih]; rfl
theorem total_addm (S : List Ac) (f g : Ac → Int) : total (S.map fun a => f a + g a) = total (S.map f) + total (S.map g) := by
  induction S with
  | nil => rfl
  | cons a r ih => rw [List.map_cons, List.map_cons, List.map_cons, total_cons, total_cons, total_cons, ih]; omega
theorem held_total {S : List Ac} (hr : Rise S) : ∀ H : List Hd, (∀ h ∈ H, (getA S h.acct).isSome = true) → total (S.map fun a => heldOf H a.name) = total (H.map Hd.sum)
  | [], _ => total_zero
  | x :: H, h => by
    have ih := held_total hr H fun y hy => h y (List.mem_cons_of_mem _ hy)
    have e : (S.map fun a => heldOf (x :: H) a.name) = S.map fun a => (if x.acct = a.name then x.sum else 0) + heldOf H a.name := by
      apply List.map_congr_left
      intro a _
      exact heldOf_cons x H a.name
    rw [e, total_addm S (fun a => if x.acct = a.name then x.sum else 0) (fun a => heldOf H a.name), pick_total hr x.sum (h x List.mem_cons_self), ih, List.map_cons, total_cons]
/-- what is set aside is what is held -/
theorem sts_held {b : Bk} (hI : BkI b) : total (stsA b.S) = total (b.H.map Hd.sum) := by
  have hr := hI.st.kp.inv.rise
  rw [← held_total hr b.H hI.st.kp.own]
  unfold stsA
  congr 1
  apply List.map_congr_left
  intro a ha
  exact (hI.st.kp.set a.name a (getA_mem hr ha)).symm
/-- an account is there -/
def HasA (S : List Ac) (nm : List UInt8) : Prop := (getA S nm).isSome = true
theorem HasA.act {S : List Ac} {k : List UInt8} (h : HasA S k) {f : Ac → Int} {g : Ac → Ac} (hg : ∀ a, (g a).name = a.name) (nm : List UInt8) : HasA (actS f g S nm) k := by
  unfold HasA actS at *
  cases hq : getA S nm with
  | none => exact h
  | some a =>
    simp only
    split
    · rw [getA_upd hq (hg a)]
      split
      · rfl
      · exact h
    · exact h
theorem HasA.asd {S : List Ac} {k : List UInt8} (h : HasA S k) (nm : List UInt8) (x : Int) : HasA (asdS S nm x) k := h.act (fun a => asideA_name a x) nm
theorem HasA.leg {S : List Ac} {k : List UInt8} (h : HasA S k) (g : Lg) : HasA (legS S g) k := by
  unfold legS
  split
  · exact h.act (fun a => giveA_name a _) _
  · exact h
theorem HasA.legs {S : List Ac} {k : List UInt8} (h : HasA S k) (L : List Lg) : HasA (legsS S L) k := by
  induction L generalizing S with
  | nil => exact h
  | cons g r ih =>
    unfold legsS
    split
    · exact ih (h.leg g)
    · exact h
theorem HasA.make {S : List Ac} {k : List UInt8} (h : HasA S k) (L : List Lg) : HasA (makeS S L) k := by
  unfold makeS
  split
  · exact h.legs L
  · exact h
theorem asd_has {S : List Ac} {nm : List UInt8} {x : Int} (h : asdE S nm x = 0) : HasA S nm := by
  unfold asdE actE at h
  unfold HasA
  cases hq : getA S nm with
  | none => rw [hq] at h; cases h
  | some a => rfl
theorem about_has {S : List Ac} {nm : List UInt8} (h : HasA S nm) : (aboutR S nm 0).err = 0 := by
  unfold aboutR
  rw [if_pos rfl]
  exact if_pos h
theorem about_err (S : List Ac) (nm : List UInt8) (e : Int) (h : e ≠ 0) : aboutR S nm e = errR e := by unfold aboutR; rw [if_neg h]
theorem err_err (e : Int) : (errR e).err = e := rfl
/-- an error changes nothing, and tells nothing else -/
theorem do_err {b : Bk} (hI : BkI b) (o : Od) (h : (doR b o).err ≠ 0) : doB b o = b ∧ doR b o = errR (doR b o).err := by
  unfold doR doB at *
  cases hr : rightO o with
  | false => exact ⟨rfl, rfl⟩
  | true =>
    rw [hr] at h
    rw [if_pos rfl] at h
    rw [if_pos rfl, if_pos rfl]
    unfold effR effB at *
    by_cases k1 : o.kd = 1
    · rw [if_pos k1] at h
      rw [if_pos k1, if_pos k1]
      by_cases h0 : openE b.S o.an o.sum = 0
      · rw [h0] at h
        refine absurd (about_has ?_) h
        unfold HasA openS
        rw [if_pos h0]
        have := getA_put_same b.S ⟨o.an, 0, 0, o.sum⟩
        simp only at this
        rw [this]
        rfl
      · rw [about_err _ _ _ h0]
        refine ⟨?_, rfl⟩
        unfold openS
        rw [if_neg h0]
    rw [if_neg k1] at h
    rw [if_neg k1, if_neg k1]
    by_cases k2 : o.kd = 2
    · rw [if_pos k2] at h
      rw [if_pos k2, if_pos k2]
      by_cases hp : o.per ≤ b.cl
      · rw [if_pos hp, if_pos hp]; exact ⟨rfl, rfl⟩
      · rw [if_neg hp] at h
        rw [if_neg hp, if_neg hp]
        refine ⟨?_, rfl⟩
        rw [make_err h]
    rw [if_neg k2] at h
    rw [if_neg k2, if_neg k2]
    by_cases k3 : o.kd = 3
    · rw [if_pos k3] at h
      rw [if_pos k3, if_pos k3]
      by_cases h0 : putE b.S b.H (numO o) o.an o.sum = 0
      · rw [numR_err, h0] at h
        refine absurd (about_has ?_) h
        obtain ⟨-, -, -, -, -, h6⟩ := put_zero h0
        unfold putSS
        rw [if_pos h0]
        exact (asd_has h6).asd _ _
      · rw [about_err _ _ _ h0]
        refine ⟨?_, ?_⟩
        · unfold putSS putHH
          rw [if_neg h0, if_neg h0]
        · unfold numR
          rw [err_err, if_neg h0]
          rfl
    rw [if_neg k3] at h
    rw [if_neg k3, if_neg k3]
    by_cases k4 : o.kd = 4
    · rw [if_pos k4] at h
      rw [if_pos k4, if_pos k4]
      by_cases hp : o.per ≤ b.cl
      · rw [if_pos hp, if_pos hp]; exact ⟨rfl, rfl⟩
      · rw [if_neg hp] at h
        rw [if_neg hp, if_neg hp]
        by_cases h0 : takeE b.S b.H o.acct o.hold o.peer o.sum = 0
        · rw [h0] at h
          refine absurd (about_has ?_) h
          unfold takeSS
          rw [if_pos h0]
          unfold takeE at h0
          cases hg : getH b.H o.acct.data.toList o.hold with
          | none => rw [hg] at h0; cases h0
          | some y =>
            rw [hg] at h0
            simp only at h0
            split at h0
            · cases h0
            · split at h0
              · rename_i h1
                exact ((asd_has h1).asd _ _).make _
              · rename_i h1
                exact absurd h0 h1
        · rw [about_err _ _ _ h0]
          refine ⟨?_, rfl⟩
          unfold takeSS takeHH
          rw [if_neg h0, if_neg h0]
    rw [if_neg k4] at h
    rw [if_neg k4, if_neg k4]
    by_cases k5 : o.kd = 5
    · rw [if_pos k5] at h
      rw [if_pos k5, if_pos k5]
      by_cases h0 : freeE b.S b.H o.an o.hold = 0
      · rw [h0] at h
        refine absurd (about_has ?_) h
        unfold freeSS
        unfold freeE at h0
        cases hg : getH b.H o.an o.hold with
        | none => rw [hg] at h0; cases h0
        | some y =>
          rw [hg] at h0
          simp only at h0 ⊢
          exact (asd_has h0).asd _ _
      · rw [about_err _ _ _ h0]
        refine ⟨?_, rfl⟩
        have h1 := (hI.st.free o.an o.hold).2 h0
        rw [h1]
        unfold freeHH
        rw [if_neg h0]
    rw [if_neg k5] at h
    rw [if_neg k5, if_neg k5]
    by_cases k6 : o.kd = 6
    · rw [if_pos k6] at h
      rw [if_pos k6, if_pos k6]
      by_cases hp : o.per ≤ b.cl
      · rw [if_pos hp, if_pos hp]; exact ⟨rfl, rfl⟩
      · rw [if_neg hp] at h
        exact absurd rfl h
    rw [if_neg k6] at h
    rw [if_neg k6, if_neg k6]
    refine ⟨rfl, ?_⟩
    unfold aboutR at h ⊢
    rw [if_pos rfl] at h ⊢
    simp only at h ⊢
    cases hg : getA b.S o.an with
    | none =>
      unfold getV
      rw [hg]
      rfl
    | some a =>
      rw [hg] at h
      exact absurd rfl h
theorem do_ask {b : Bk} (o : Od) (h : o.kd = 7) : doB b o = b := by
  unfold doB
  split
  · unfold effB
    rw [if_neg (by omega), if_neg (by omega), if_neg (by omega), if_neg (by omega), if_neg (by omega), if_neg (by omega)]
  · rfl
theorem do_cl (b : Bk) (o : Od) : b.cl ≤ (doB b o).cl := by
  unfold doB
  split
  · unfold effB
    split
    · exact Int.le_refl _
    split
    · split <;> exact Int.le_refl _
    split
    · exact Int.le_refl _
    split
    · split <;> exact Int.le_refl _
    split
    · exact Int.le_refl _
    split
    · split
      · exact Int.le_refl _
      · simp only; omega
    exact Int.le_refl _
  · exact Int.le_refl _
end Go.Proofs.YtgklifbfbjdobaaGreat
