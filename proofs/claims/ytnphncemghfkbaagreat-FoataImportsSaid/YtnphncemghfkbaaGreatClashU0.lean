/- The document's Right and Begins tell the same as the program's: plain mathematics. -/
import Derived.Test.YtnphncemghfkbaaGreatQ10
namespace Go.Proofs.YtnphncemghfkbaaGreat
open Go.RowKit Go.My
set_option linter.unusedSimpArgs false
set_option linter.unusedVariables false

theorem right_at {l : List Od} : rightL l = true ↔ ∀ i (h : i < l.length), atL (idsO l) l[i].id = i := by
  rw [rightL_iff]
  constructor
  · intro h i hi
    exact atL_rt h hi
  · intro h
    unfold Rt List.Nodup
    rw [List.pairwise_iff_getElem]
    intro i j hi hj hij e
    rw [List.length_map] at hi hj
    rw [List.getElem_map, List.getElem_map] at e
    have h1 := h i hi
    have h2 := h j hj
    rw [e, h2] at h1
    omega
/-- what hinders o, at i of a: x, ahead of it in b, clashes with it, and is not in a, or behind o -/
def badR (a : List Od) (i : Nat) (o x : Od) : Bool := clashB x o && (decide (atL (idsO a) x.id < 0) || decide ((i : Int) < atL (idsO a) x.id))
def rowR (a b : List Od) (i : Nat) (o : Od) : Bool := decide (0 ≤ atL (idsO b) o.id) && (b[(atL (idsO b) o.id).toNat]?).any (fun x => eqO o x) && !((b.take (atL (idsO b) o.id).toNat).any (badR a i o))
def begR (a b : List Od) : Bool := (List.range a.length).all fun i => (a[i]?).all fun o => rowR a b i o
def refBegB (a b : List Od) : Bool := rightL a && rightL b && begR a b
theorem atL_mem {l : List Od} (h : Rt Od.id l) {o : Od} (ho : o ∈ l) : ∃ i, ∃ hi : i < l.length, l[i] = o ∧ atL (idsO l) o.id = i := by
  obtain ⟨i, hi, rfl⟩ := List.mem_iff_getElem.1 ho
  exact ⟨i, hi, rfl, atL_rt h hi⟩
theorem refBegB_eq (a b : List Od) : refBegB a b = beginsB a b := by
  rw [Bool.eq_iff_iff, beginsB_iff]
  unfold refBegB
  rw [Bool.and_eq_true, Bool.and_eq_true, rightL_iff, rightL_iff]
  have key : ∀ (ha : Rt Od.id a) (hb : Rt Od.id b), begR a b = true ↔ ∀ i (hi : i < a.length), rowR a b i a[i] = true := fun ha hb => by
    unfold begR
    rw [List.all_eq_true]
    constructor
    · intro h i hi
      have := h i (List.mem_range.2 hi)
      rw [List.getElem?_eq_getElem hi] at this
      simpa using this
    · intro h i hi
      have hi := List.mem_range.1 hi
      rw [List.getElem?_eq_getElem hi]
      simpa using h i hi
  constructor
  · rintro ⟨⟨ha, hb⟩, h⟩
    rw [key ha hb] at h
    have hin : ∀ o ∈ a, o ∈ b := by
      intro o ho
      obtain ⟨i, hi, rfl⟩ := List.mem_iff_getElem.1 ho
      have := h i hi
      unfold rowR at this
      rw [Bool.and_eq_true, Bool.and_eq_true, decide_eq_true_eq, Option.any_eq_true] at this
      obtain ⟨x, hx, he⟩ := this.1.2
      rw [eqO_iff] at he
      rw [he]
      exact List.mem_of_getElem? hx
    refine ⟨ha, hb, hin, fun x o hbx hc ho => ?_⟩
    obtain ⟨i, hi, hio⟩ := List.mem_iff_getElem.1 ho
    have hr := h i hi
    rw [hio] at hr
    unfold rowR at hr
    rw [Bool.and_eq_true, Bool.and_eq_true, decide_eq_true_eq] at hr
    obtain ⟨k, hk, hko, hat⟩ := atL_mem hb (hin o ho)
    rw [hat, Int.toNat_natCast] at hr
    obtain ⟨j, hj, hjo, hxt⟩ := (bef_iff_get x o b).1 hbx
    have hjk : j = k := by
      have := nodup_inj hb.nodup hj hk (hjo.trans hko.symm)
      exact this
    subst hjk
    have hany : ((b.take j).any (badR a i o)) = false := by simpa using hr.2
    rw [List.any_eq_false] at hany
    have hx := hany x hxt
    unfold badR at hx
    rw [hc, Bool.true_and, Bool.or_eq_true, decide_eq_true_eq, decide_eq_true_eq] at hx
    have hneg : ¬ atL (idsO a) x.id < 0 := fun k => hx (.inl k)
    have hle : ¬ (i : Int) < atL (idsO a) x.id := fun k => hx (.inr k)
    have hxa : x.id ∈ idsO a := Classical.byContradiction fun k => hneg (atL_neg.2 k)
    obtain ⟨y, hya, hyx⟩ := List.mem_map.1 hxa
    have hyb := hin y hya
    obtain rfl : y = x := hb.inj hyb (bef_mem hbx).1 hyx
    obtain ⟨n, hn, hny, hatn⟩ := atL_mem ha hya
    have hne := bef_ne hb.nodup hbx
    rw [hatn] at hle
    refine (bef_iff_get y o a).2 ⟨i, hi, hio, List.mem_take_iff_getElem.2 ⟨n, ?_, hny⟩⟩
    have : n ≠ i := fun e => by subst e; exact hne (hny.symm.trans hio)
    omega
  · rintro ⟨ha, hb, hin, hB⟩
    refine ⟨⟨ha, hb⟩, ?_⟩
    rw [key ha hb]
    intro i hi
    have ho := hin a[i] (List.getElem_mem hi)
    obtain ⟨k, hk, hko, hat⟩ := atL_mem hb ho
    unfold rowR
    rw [Bool.and_eq_true, Bool.and_eq_true, decide_eq_true_eq, hat, Int.toNat_natCast]
    refine ⟨⟨by omega, by rw [List.getElem?_eq_getElem hk, hko, Option.any_some, eqO_iff]⟩, ?_⟩
    rw [Bool.not_eq_true', List.any_eq_false]
    intro x hx hbad
    unfold badR at hbad
    rw [Bool.and_eq_true, Bool.or_eq_true, decide_eq_true_eq, decide_eq_true_eq] at hbad
    obtain ⟨hc, hbad⟩ := hbad
    have hbx : bef x a[i] b := (bef_iff_get x a[i] b).2 ⟨k, hk, hko, hx⟩
    have hba := hB x a[i] hbx hc (List.getElem_mem hi)
    obtain ⟨n, hn, hnx, hatn⟩ := atL_mem ha (bef_mem hba).1
    obtain ⟨i', hi', hie, hxt⟩ := (bef_iff_get x a[i] a).1 hba
    have hii := nodup_inj ha.nodup hi' hi hie
    subst hii
    obtain ⟨m, hm, hmx⟩ := List.mem_take_iff_getElem.1 hxt
    have hnm := nodup_inj ha.nodup (i := n) (j := m) hn (by omega) (hnx.trans hmx.symm)
    rw [hatn] at hbad
    omega
/-- what the document's Meet tells -/
theorem refMeet_eq (a b : List Od) : (refBegB a (a ++ others Od.id a b) && refBegB b (a ++ others Od.id a b)) = meetB a b := by
  rw [refBegB_eq, refBegB_eq]; rfl
end Go.Proofs.YtnphncemghfkbaaGreat
