/- Holds, and steps of a script, read from memory one by one; sums of a part. -/
import Derived.Test.YtjbeaoabhhaiiaaGreatHoldS5
namespace Go.Proofs.YtjbeaoabhhaiiaaGreat
open Go.RowKit Go.My Go.Maps
set_option linter.unusedSimpArgs false
set_option linter.unusedVariables false

theorem hds_get (S : List Hd) : ∀ (k i : Nat) (hk : k < S.length), i < 3 → (hds S)[k * 3 + i]? = (encH S[k])[i]? := by
  induction S with
  | nil => intro k i hk; simp at hk
  | cons a S ih =>
    intro k i hk hi
    show (encH a ++ hds S)[k * 3 + i]? = _
    cases k with
    | zero => rw [List.getElem?_append_left (by simp [encH]; omega)]; simp
    | succ k =>
      rw [List.getElem?_append_right (by simp [encH]; omega)]
      have := ih k i (by simp at hk; omega) hi
      simp only [List.getElem_cons_succ]
      rw [← this]
      congr 1
      simp [encH]
      omega
theorem hd_at {w : World} {F : Nat → Prop} {A : Option Addr} {S : List Hd} (h : Rd w F 3 A S.length (hds S)) (k : Nat) (hk : k < S.length) :
    ∃ ad, A = some ad ∧ F ad.block ∧ w.cell? (ad.add (k * 3)) = some (.int .i64 S[k].num) ∧ w.cell? ⟨(ad.add (k * 3)).block, (ad.add (k * 3)).off + 1, none⟩ = some (.string ⟨S[k].acct.toArray⟩) ∧
      w.cell? ⟨(ad.add (k * 3)).block, (ad.add (k * 3)).off + 2, none⟩ = some (.int .i64 S[k].sum) := by
  obtain ⟨ad, rfl, hF, hc⟩ := h.2 (by omega)
  refine ⟨ad, rfl, hF, hc (k * 3) _ (by have := hds_get S k 0 hk (by omega); rw [Nat.add_zero] at this; rw [this]; rfl), ?_, ?_⟩
  · rw [← add_lits ad (k * 3) 1 (by omega)]
    exact hc _ _ (by rw [hds_get S k 1 hk (by omega)]; rfl)
  · rw [← add_lits ad (k * 3) 2 (by omega)]
    exact hc _ _ (by rw [hds_get S k 2 hk (by omega)]; rfl)
/-- a step of a script in memory -/
theorem scrH_at {w : World} {F : Nat → Prop} {A : Option Addr} {n : Nat} {cells : List Value} {T : List OpH} (h : Rd w F 5 A n cells) (hE : Each RdOH 5 cells T) (k : Nat) (hkn : k < n) (hk : k < T.length) :
    ∃ ad, A = some ad ∧ F ad.block ∧ T[k].ok ∧ w.cell? (ad.add (k * 5)) = some (.int .i64 T[k].kind) ∧ w.cell? ⟨(ad.add (k * 5)).block, (ad.add (k * 5)).off + 1, none⟩ = some (.int .i64 T[k].num) ∧
      w.cell? ⟨(ad.add (k * 5)).block, (ad.add (k * 5)).off + 2, none⟩ = some (.string T[k].acct) ∧ w.cell? ⟨(ad.add (k * 5)).block, (ad.add (k * 5)).off + 3, none⟩ = some (.string T[k].peer) ∧
      w.cell? ⟨(ad.add (k * 5)).block, (ad.add (k * 5)).off + 4, none⟩ = some (.int .i64 T[k].sum) := by
  obtain ⟨ad, rfl, hF, hc⟩ := h.2 (by omega)
  obtain ⟨hcs, hok⟩ := hE.2 k T[k] (List.getElem?_eq_getElem hk)
  have hget : ∀ i, i < 5 → cells[k * 5 + i]? = ([.int .i64 T[k].kind, .int .i64 T[k].num, .string T[k].acct, .string T[k].peer, .int .i64 T[k].sum] : List Value)[i]? := fun i hi => by
    rw [← hcs, List.getElem?_take, if_pos hi, List.getElem?_drop]
  refine ⟨ad, rfl, hF, hok, hc (k * 5) _ (by have := hget 0 (by omega); rw [Nat.add_zero] at this; rw [this]; rfl), ?_, ?_, ?_, ?_⟩
  · rw [← add_lits ad (k * 5) 1 (by omega)]
    exact hc _ _ (by rw [hget 1 (by omega)]; rfl)
  · rw [← add_lits ad (k * 5) 2 (by omega)]
    exact hc _ _ (by rw [hget 2 (by omega)]; rfl)
  · rw [← add_lits ad (k * 5) 3 (by omega)]
    exact hc _ _ (by rw [hget 3 (by omega)]; rfl)
  · rw [← add_lits ad (k * 5) 4 (by omega)]
    exact hc _ _ (by rw [hget 4 (by omega)]; rfl)
/-- the first j holds together -/
def parH (L : List Hd) (j : Nat) : Int := total ((L.take j).map Hd.sum)
theorem parH_zero (L : List Hd) : parH L 0 = 0 := rfl
theorem parH_succ (L : List Hd) (j : Nat) (hj : j < L.length) : parH L (j + 1) = parH L j + L[j].sum := by
  unfold parH
  rw [List.take_succ_eq_append_getElem hj, List.map_append, total_append]
  simp [total_cons, total_nil]
theorem parH_all (L : List Hd) : parH L L.length = total (L.map Hd.sum) := by unfold parH; rw [List.take_length]
theorem total_pos {L : List Hd} (h : ∀ x ∈ L, 0 < x.sum) : 0 ≤ total (L.map Hd.sum) := by
  induction L with
  | nil => simp [total_nil]
  | cons a r ih =>
    have h1 := h a List.mem_cons_self
    have h2 := ih (fun x hx => h x (List.mem_cons_of_mem _ hx))
    rw [List.map_cons, total_cons]
    omega
theorem parH_bd {L : List Hd} (h : ∀ x ∈ L, 0 < x.sum) (j : Nat) : 0 ≤ parH L j ∧ parH L j ≤ total (L.map Hd.sum) := by
  have h1 := total_pos (L := L.take j) (fun x hx => h x (List.mem_of_mem_take hx))
  have h2 := total_pos (L := L.drop j) (fun x hx => h x (List.mem_of_mem_drop hx))
  have h3 : total (L.map Hd.sum) = total ((L.take j).map Hd.sum) + total ((L.drop j).map Hd.sum) := by
    rw [← total_append, ← List.map_append, List.take_append_drop]
  unfold parH
  omega
/-- what the accounts, and their holds, say -/
theorem St.parts {S : List Ac} {H : List Hd} (h : St S H) {a : Ac} (ha : a ∈ S) : (∀ x ∈ ofH H a.name, 0 < x.sum) ∧ total ((ofH H a.name).map Hd.sum) = a.st ∧ (ofH H a.name).length ≤ 8 :=
  ⟨fun x hx => (h.pos x (List.mem_filter.1 hx).1).2.2.1, h.kp.set a.name a (getA_mem h.kp.inv.rise ha), h.few _⟩
end Go.Proofs.YtjbeaoabhhaiiaaGreat
