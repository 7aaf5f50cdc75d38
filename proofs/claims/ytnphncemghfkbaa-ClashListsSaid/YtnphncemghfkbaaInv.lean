/- A region that draws its order, by an invariant: of no program. -/
import Derived.RegionTactic
import Derived.Test.YtnphncemghfkbaaLib
namespace Go.My
open Go Go.RowKit
set_option linter.unusedSimpArgs false
set_option linter.unusedVariables false

/-- what has not come up yet -/
def unl (l : Array Bool) : Nat := l.countP (fun b => b == false)
theorem unl_set {l : Array Bool} {i : Nat} (h : l.getD i true = false) : unl (l.setIfInBounds i true) + 1 = unl l := by
  have hlt : i < l.size := by
    rcases Nat.lt_or_ge i l.size with h' | h'
    · exact h'
    · simp [h'] at h
  have hv : l[i] = false := by simpa [hlt] using h
  have e : l.setIfInBounds i true = l.set i true hlt := by simp [Array.setIfInBounds, hlt]
  unfold unl
  rw [e, Array.countP_set hlt, hv]
  simp only [beq_self_eq_true, if_true]
  have hpos : 0 < l.countP (fun b => b == false) := Array.countP_pos_iff.2 ⟨l[i], Array.getElem_mem hlt, by rw [hv]; rfl⟩
  have : (true == false) = false := rfl
  rw [this]
  simp only [Bool.false_eq_true, if_false]
  omega
theorem unl_zero {l : Array Bool} (h : unl l = 0) (i : Nat) : l.getD i true = true := by
  rcases Nat.lt_or_ge i l.size with h' | h'
  · have := Array.countP_eq_zero.1 h l[i] (Array.getElem_mem h')
    simpa [h'] using this
  · simp [h']
theorem unl_least {l : Array Bool} (h : unl l ≠ 0) : ∃ i, i < l.size ∧ l.getD i true = false ∧ ∀ j, j < i → l.getD j false = true := by
  obtain ⟨b, hb, hb2⟩ := Array.countP_pos_iff.1 (Nat.pos_of_ne_zero h)
  obtain ⟨k, hk, rfl⟩ := Array.getElem_of_mem hb
  have hk2 : l.getD k true = false := by simpa [hk] using hb2
  clear hb hb2 h
  induction k using Nat.strongRecOn with
  | _ k ih =>
    by_cases hx : ∃ j, j < k ∧ l.getD j false = false
    · obtain ⟨j, hj, hjf⟩ := hx
      have hjl : j < l.size := by omega
      exact ih j hj hjl (by simpa [hjl] using hjf)
    · refine ⟨k, hk, hk2, fun j hj => ?_⟩
      cases hq : l.getD j false with
      | true => rfl
      | false => exact absurd ⟨j, hj, hq⟩ hx
section
variable {P : Program} {ops : Array Oper} {Q : Exit → Act → World → Prop} {md : Region.Mode}
theorem wpAny_inv (Inv : Array Bool → Act → World → Prop) (hsz : ∀ l a w, Inv l a w → l.size = ops.size)
    (hback : ∀ i o, ops[i]? = some o → ∀ e ∈ o.after, Region.binds md e = true → e.on < i)
    (hstep : ∀ l a w i o, Inv l a w → ops[i]? = some o → l.getD i true = false → (∀ e ∈ o.after, Region.binds md e = true → l.getD e.on false = true) → wpOp P ops Q i (Inv (l.setIfInBounds i true)) a w)
    (hend : ∀ l a w, Inv l a w → (∀ i, i < ops.size → l.getD i false = true) → Q .normal a w) :
    ∀ fuel l a w, Inv l a w → unl l = fuel → wpAny P md ops Q fuel l a w := by
  intro fuel
  induction fuel with
  | zero =>
    intro l a w h hu
    refine ⟨?_, hend l a w h fun i hi => ?_⟩
    · cases hr : Region.ready md ops l with
      | nil => rfl
      | cons j t =>
        have hj : j ∈ Region.ready md ops l := by rw [hr]; exact List.mem_cons_self
        have h1 := (mem_ready.1 hj).1
        rw [unl_zero hu j] at h1
        cases h1
    · have h1 := unl_zero hu i
      have h2 : i < l.size := by rw [hsz l a w h]; exact hi
      simpa [h2] using h1
  | succ fuel ih =>
    intro l a w h hu
    refine ⟨fun hr => ?_, fun i hi => ?_⟩
    · obtain ⟨i, hi, hf, hlt⟩ := unl_least (l := l) (by omega)
      have hio : i < ops.size := by rw [← hsz l a w h]; exact hi
      have : i ∈ Region.ready md ops l := mem_ready.2 ⟨hf, ops[i], Array.getElem?_eq_getElem hio, fun e he hb => hlt _ (hback i _ (Array.getElem?_eq_getElem hio) e he hb)⟩
      rw [hr] at this
      cases this
    · obtain ⟨hf, o, ho, hall⟩ := mem_ready.1 hi
      refine wpOp_mono (fun a' w' h' => ih _ _ _ h' ?_) (hstep l a w i o h ho hf hall)
      have := unl_set hf
      omega
theorem wp_region_inv {id : Nat} {a : Act} {w : World} (hm : P.follows .mixedOrders = true) (Inv : Array Bool → Act → World → Prop) (hsz : ∀ l a w, Inv l a w → l.size = ops.size)
    (hback : ∀ i o, ops[i]? = some o → ∀ e ∈ o.after, Region.binds .any e = true → e.on < i)
    (hstep : ∀ l a w i o, Inv l a w → ops[i]? = some o → l.getD i true = false → (∀ e ∈ o.after, Region.binds .any e = true → l.getD e.on false = true) → wpOp P ops Q i (Inv (l.setIfInBounds i true)) a w)
    (hend : ∀ l a w, Inv l a w → (∀ i, i < ops.size → l.getD i false = true) → Q .normal a w)
    (h0 : Inv (Array.replicate ops.size false) a w.drew) : (Code.region id ops true).wp P Q a w := by
  refine wp_region_any hm (wpAny_inv Inv hsz hback hstep hend _ _ _ _ h0 ?_)
  unfold unl
  rw [Array.countP_replicate]
  simp
end
end Go.My
