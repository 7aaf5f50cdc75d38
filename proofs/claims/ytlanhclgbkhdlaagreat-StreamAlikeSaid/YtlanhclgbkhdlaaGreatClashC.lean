/- Rows of marked orders; slices.ContainsFunc over them; clash.begins. -/
import Derived.Test.YtlanhclgbkhdlaaGreatClashB
import Derived.Test.YtlanhclgbkhdlaaGreatQ16
namespace Go.Proofs.YtlanhclgbkhdlaaGreat
open Go.RowKit Go.My Go.Maps Go.WideMaps
set_option linter.unusedSimpArgs false
set_option linter.unusedVariables false
attribute [local go_sem ↓] Go.wp_at_zero Go.wp_at_succ

/-- a marked order's cells -/
def MkR (w : World) (F : Nat → Prop) (cs : List Value) (x : Od) : Prop := ∃ A n c C e, cs = x.cs (.slice A n c) ++ [.slice C (touchL x).length e] ∧ IdOk x.id ∧ Rd w F 1 C (touchL x).length (ts (touchL x)) ∧ (touchL x).length ≤ 1000000
def MksS (w0 w : World) (F G : Nat → Prop) (A : Option Addr) (l : List Od) : Prop := ∃ cells, Rd w F 11 A l.length cells ∧ Each (MkR w0 G) 11 cells l
theorem MksS.at_ {w0 w : World} {F G : Nat → Prop} {A : Option Addr} {l : List Od} (h : MksS w0 w F G A l) (k : Nat) (hk : k < l.length) :
    ∃ ad B n c C e, A = some ad ∧ IdOk l[k].id ∧ Rd w0 G 1 C (touchL l[k]).length (ts (touchL l[k])) ∧ (touchL l[k]).length ≤ 1000000 ∧ w.cell? (ad.add (k * 11)) = some (.int .i64 l[k].cl) ∧ w.cell? ⟨(ad.add (k * 11)).block, (ad.add (k * 11)).off + 1, none⟩ = some (.int .i64 l[k].sq) ∧
      w.cell? ⟨(ad.add (k * 11)).block, (ad.add (k * 11)).off + 2, none⟩ = some (.int .i64 l[k].kd) ∧ w.cell? ⟨(ad.add (k * 11)).block, (ad.add (k * 11)).off + 3, none⟩ = some (.string l[k].acct) ∧
      w.cell? ⟨(ad.add (k * 11)).block, (ad.add (k * 11)).off + 4, none⟩ = some (.string l[k].peer) ∧ w.cell? ⟨(ad.add (k * 11)).block, (ad.add (k * 11)).off + 5, none⟩ = some (.int .i64 l[k].sum) ∧
      w.cell? ⟨(ad.add (k * 11)).block, (ad.add (k * 11)).off + 6, none⟩ = some (.slice B n c) ∧ w.cell? ⟨(ad.add (k * 11)).block, (ad.add (k * 11)).off + 7, none⟩ = some (.int .i64 l[k].per) ∧
      w.cell? ⟨(ad.add (k * 11)).block, (ad.add (k * 11)).off + 8, none⟩ = some (.int .i64 l[k].hold) ∧ w.cell? ⟨(ad.add (k * 11)).block, (ad.add (k * 11)).off + 9, none⟩ = some (.string l[k].note) ∧
      w.cell? ⟨(ad.add (k * 11)).block, (ad.add (k * 11)).off + 10, none⟩ = some (.slice C (touchL l[k]).length e) := by
  obtain ⟨cells, hr, hE⟩ := h
  obtain ⟨ad, rfl, hF, hc⟩ := hr.2 (by omega)
  obtain ⟨B, n, c, C, e, hcs, hok, hT, hS⟩ := hE.2 k l[k] (List.getElem?_eq_getElem hk)
  have hget : ∀ i, i < 11 → cells[k * 11 + i]? = (l[k].cs (.slice B n c) ++ [.slice C (touchL l[k]).length e])[i]? := fun i hi => by
    rw [← hcs, List.getElem?_take, if_pos hi, List.getElem?_drop]
  have hj : ∀ i, 0 < i → i < 11 → ∀ u, (l[k].cs (.slice B n c) ++ [.slice C (touchL l[k]).length e])[i]? = some u → w.cell? ⟨(ad.add (k * 11)).block, (ad.add (k * 11)).off + i, none⟩ = some u := fun i h0 hi u hu => by
    rw [← add_lits ad (k * 11) i h0]
    exact hc _ _ (by rw [hget i hi]; exact hu)
  refine ⟨ad, B, n, c, C, e, rfl, hok, hT, hS, hc (k * 11) _ (by have := hget 0 (by omega); rw [Nat.add_zero] at this; rw [this]; rfl), hj 1 (by omega) (by omega) _ rfl, hj 2 (by omega) (by omega) _ rfl, hj 3 (by omega) (by omega) _ rfl, hj 4 (by omega) (by omega) _ rfl, hj 5 (by omega) (by omega) _ rfl, hj 6 (by omega) (by omega) _ rfl, hj 7 (by omega) (by omega) _ rfl, hj 8 (by omega) (by omega) _ rfl, hj 9 (by omega) (by omega) _ rfl, hj 10 (by omega) (by omega) _ rfl⟩
theorem MksS.no {w0 w w' : World} {F G : Nat → Prop} {A : Option Addr} {l : List Od} (h : MksS w0 w F G A l) (hf : Fr No w w') : MksS w0 w' F G A l := by
  obtain ⟨cells, hr, hE⟩ := h
  exact ⟨cells, hr.fr (by omega) hf (fun _ _ _ h => h), hE⟩

/-- the first for which q holds -/
def idxO (q : Od → Bool) (L : List Od) : Int := match L.findIdx? q with | some i => (i : Int) | none => -1
def IxORel (w : World) (q : Od → Bool) (L : List Od) (iv : Value) (wr : World) : Prop := ∃ k : Nat, k ≤ L.length ∧ iv = .int .i64 k ∧ (∀ g ∈ L.take k, q g = false) ∧ Fr No w wr
end Go.Proofs.YtlanhclgbkhdlaaGreat
