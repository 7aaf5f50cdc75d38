/- Lists of orders in memory; replies in rows. -/
import Derived.Test.YtnphncemghfkbaaOdI
import Derived.Test.YtnphncemghfkbaaRp
namespace Go.Proofs.Ytnphncemghfkbaa
open Go.RowKit Go.My Go.Maps
set_option linter.unusedSimpArgs false
set_option linter.unusedVariables false

/-- an order's cells; its legs lie in memory as they came in with the world w0 -/
def OdR (w0 : World) (cs : List Value) (o : Od) : Prop := ∃ v, cs = o.cs v ∧ o.ok ∧ (∀ g ∈ o.legs, g.ok) ∧ LgS w0 (Lt w0.heap.size) v o.legs
/-- orders in a slice -/
def OdsS (w0 w : World) (F : Nat → Prop) (A : Option Addr) (l : List Od) : Prop := ∃ cells, Rd w F 10 A l.length cells ∧ Each (OdR w0) 10 cells l
section
variable {w0 w w' : World} {F G : Nat → Prop} {A : Option Addr} {l : List Od}
theorem OdsS.fr {S : Nat → Prop} (h : OdsS w0 w F A l) (hf : Fr S w w') (hn : ∀ k, F k → k < w.heap.size → ¬ S k) : OdsS w0 w' F A l := by
  obtain ⟨cells, hr, hE⟩ := h
  exact ⟨cells, hr.fr (by omega) hf hn, hE⟩
theorem OdsS.more (h : OdsS w0 w F A l) (hB : ∀ k, F k → G k) : OdsS w0 w G A l := by
  obtain ⟨cells, hr, hE⟩ := h
  exact ⟨cells, hr.more hB, hE⟩
theorem OdsS.below {B : Nat} (h : OdsS w0 w F A l) (hb : Below B w w') (hF : ∀ k, F k → k < B) : OdsS w0 w' F A l := by
  obtain ⟨cells, hr, hE⟩ := h
  exact ⟨cells, hr.below hb hF, hE⟩
theorem OdsS.ok (h : OdsS w0 w F A l) : ∀ o ∈ l, o.ok := fun o ho => by
  obtain ⟨cells, hr, hE⟩ := h
  obtain ⟨i, hi, rfl⟩ := List.getElem_of_mem ho
  obtain ⟨v, _, h1, _⟩ := hE.2 i _ (List.getElem?_eq_getElem hi)
  exact h1
/-- the order at k -/
theorem OdsS.at_ (h : OdsS w0 w F A l) (k : Nat) (hk : k < l.length) :
    ∃ ad v, A = some ad ∧ F ad.block ∧ l[k].ok ∧ (∀ g ∈ l[k].legs, g.ok) ∧ LgS w0 (Lt w0.heap.size) v l[k].legs ∧ w.cell? (ad.add (k * 10)) = some (.int .i64 l[k].cl) ∧ w.cell? ⟨(ad.add (k * 10)).block, (ad.add (k * 10)).off + 1, none⟩ = some (.int .i64 l[k].sq) ∧
      w.cell? ⟨(ad.add (k * 10)).block, (ad.add (k * 10)).off + 2, none⟩ = some (.int .i64 l[k].kd) ∧ w.cell? ⟨(ad.add (k * 10)).block, (ad.add (k * 10)).off + 3, none⟩ = some (.string l[k].acct) ∧
      w.cell? ⟨(ad.add (k * 10)).block, (ad.add (k * 10)).off + 4, none⟩ = some (.string l[k].peer) ∧ w.cell? ⟨(ad.add (k * 10)).block, (ad.add (k * 10)).off + 5, none⟩ = some (.int .i64 l[k].sum) ∧
      w.cell? ⟨(ad.add (k * 10)).block, (ad.add (k * 10)).off + 6, none⟩ = some v ∧ w.cell? ⟨(ad.add (k * 10)).block, (ad.add (k * 10)).off + 7, none⟩ = some (.int .i64 l[k].per) ∧
      w.cell? ⟨(ad.add (k * 10)).block, (ad.add (k * 10)).off + 8, none⟩ = some (.int .i64 l[k].hold) ∧ w.cell? ⟨(ad.add (k * 10)).block, (ad.add (k * 10)).off + 9, none⟩ = some (.string l[k].note) := by
  obtain ⟨cells, hr, hE⟩ := h
  obtain ⟨ad, rfl, hF, hc⟩ := hr.2 (by omega)
  obtain ⟨v, hcs, hok, hg, hL⟩ := hE.2 k l[k] (List.getElem?_eq_getElem hk)
  have hget : ∀ i, i < 10 → cells[k * 10 + i]? = (l[k].cs v)[i]? := fun i hi => by
    rw [← hcs, List.getElem?_take, if_pos hi, List.getElem?_drop]
  refine ⟨ad, v, rfl, hF, hok, hg, hL, hc (k * 10) _ (by have := hget 0 (by omega); rw [Nat.add_zero] at this; rw [this]; rfl), ?_, ?_, ?_, ?_, ?_, ?_, ?_, ?_, ?_⟩
  · rw [← add_lits ad (k * 10) 1 (by omega)]
    exact hc _ _ (by rw [hget 1 (by omega)]; rfl)
  · rw [← add_lits ad (k * 10) 2 (by omega)]
    exact hc _ _ (by rw [hget 2 (by omega)]; rfl)
  · rw [← add_lits ad (k * 10) 3 (by omega)]
    exact hc _ _ (by rw [hget 3 (by omega)]; rfl)
  · rw [← add_lits ad (k * 10) 4 (by omega)]
    exact hc _ _ (by rw [hget 4 (by omega)]; rfl)
  · rw [← add_lits ad (k * 10) 5 (by omega)]
    exact hc _ _ (by rw [hget 5 (by omega)]; rfl)
  · rw [← add_lits ad (k * 10) 6 (by omega)]
    exact hc _ _ (by rw [hget 6 (by omega)]; rfl)
  · rw [← add_lits ad (k * 10) 7 (by omega)]
    exact hc _ _ (by rw [hget 7 (by omega)]; rfl)
  · rw [← add_lits ad (k * 10) 8 (by omega)]
    exact hc _ _ (by rw [hget 8 (by omega)]; rfl)
  · rw [← add_lits ad (k * 10) 9 (by omega)]
    exact hc _ _ (by rw [hget 9 (by omega)]; rfl)
/-- legs stay as they came in -/
theorem LgS.keep0 {v : Value} {L : List Lg} (h : LgS w0 (Lt w0.heap.size) v L) (hb : Below w0.heap.size w0 w) : LgS w (Lt w0.heap.size) v L := h.below hb
/-- a row of orders -/
theorem Each.nilO (w0 : World) : Each (OdR w0) 10 [] [] := ⟨rfl, fun i x hx => by simp at hx⟩
theorem Each.snocO {w0 : World} {cells cs : List Value} {l : List Od} (h : Each (OdR w0) 10 cells l) {o : Od} (hl : cs.length = 10) (ho : OdR w0 cs o) : Each (OdR w0) 10 (cells ++ cs) (l ++ [o]) := by
  refine ⟨by rw [List.length_append, hl, h.1, List.length_append]; simp; omega, fun i x hx => ?_⟩
  by_cases hi : i < l.length
  · rw [List.getElem?_append_left hi] at hx
    have h1 := h.2 i x hx
    have h2 : i * 10 + 10 ≤ cells.length := by rw [h.1]; omega
    rw [List.drop_append_of_le_length (by omega), List.take_append_of_le_length (by rw [List.length_drop]; omega)]
    exact h1
  · rw [List.getElem?_append_right (by omega)] at hx
    have hi0 : i - l.length = 0 := by
      rcases Nat.eq_zero_or_pos (i - l.length) with h0 | h0
      · exact h0
      · rw [List.getElem?_eq_none (by simp; omega)] at hx; cases hx
    rw [hi0] at hx
    simp only [List.getElem?_cons_zero, Option.some.injEq] at hx
    subst hx
    have : i = l.length := by omega
    subst this
    rw [← h.1, List.drop_left, List.take_of_length_le (by omega)]
    exact ho
end
theorem elO : El Try.prog 22 30 10 120 := ⟨Try.underlying22, by
  have h : (Try.prog.info? 30).map (fun i => (i.zero, i.size, i.bytes)) = some (some (.agg #[.int .i64 0, .int .i64 0, .int .i64 0, .string ⟨#[]⟩, .string ⟨#[]⟩, .int .i64 0, .slice none 0 0, .int .i64 0, .int .i64 0, .string ⟨#[]⟩]), 10, 120) := by kernel_rfl
  obtain ⟨i, hi, hz, hs, hb⟩ := info_parts h
  exact ⟨i, _, hi, hz, hs, hb, rfl⟩, by omega⟩
/-- replies as cells -/
def rpC (r : Rp) : List Value := [.int .i64 r.err, .int .i64 r.hv, .int .i64 r.st, .int .i64 r.num]
def rps (l : List Rp) : List Value := l.flatMap rpC
theorem rps_append (l m : List Rp) : rps (l ++ m) = rps l ++ rps m := by unfold rps; rw [List.flatMap_append]
theorem rps_one (r : Rp) : rps [r] = rpC r := by simp [rps]
theorem rps_length (l : List Rp) : (rps l).length = l.length * 4 := by
  induction l with
  | nil => rfl
  | cons a r ih => show (rpC a ++ rps r).length = _; rw [List.length_append, ih, List.length_cons]; simp [rpC]; omega
theorem rps_get (l : List Rp) : ∀ (k i : Nat) (hk : k < l.length), i < 4 → (rps l)[k * 4 + i]? = (rpC l[k])[i]? := by
  induction l with
  | nil => intro k i hk; simp at hk
  | cons a r ih =>
    intro k i hk hi
    show (rpC a ++ rps r)[k * 4 + i]? = _
    have ha : (rpC a).length = 4 := rfl
    cases k with
    | zero =>
      rw [Nat.zero_mul, Nat.zero_add, List.getElem?_append_left (by omega)]
      rfl
    | succ k =>
      rw [List.getElem?_append_right (by omega)]
      have : (k + 1) * 4 + i - (rpC a).length = k * 4 + i := by omega
      rw [this, ih k i (by simpa using hk) hi]
      rfl
/-- a reply in memory -/
theorem rp_at {w : World} {F : Nat → Prop} {A : Option Addr} {S : List Rp} (h : Rd w F 4 A S.length (rps S)) (k : Nat) (hk : k < S.length) :
    ∃ ad, A = some ad ∧ F ad.block ∧ w.cell? (ad.add (k * 4)) = some (.int .i64 S[k].err) ∧ w.cell? ⟨(ad.add (k * 4)).block, (ad.add (k * 4)).off + 1, none⟩ = some (.int .i64 S[k].hv) ∧
      w.cell? ⟨(ad.add (k * 4)).block, (ad.add (k * 4)).off + 2, none⟩ = some (.int .i64 S[k].st) ∧ w.cell? ⟨(ad.add (k * 4)).block, (ad.add (k * 4)).off + 3, none⟩ = some (.int .i64 S[k].num) := by
  obtain ⟨ad, rfl, hF, hc⟩ := h.2 (by omega)
  refine ⟨ad, rfl, hF, hc (k * 4) _ (by have := rps_get S k 0 hk (by omega); rw [Nat.add_zero] at this; rw [this]; rfl), ?_, ?_, ?_⟩
  · rw [← add_lits ad (k * 4) 1 (by omega)]
    exact hc _ _ (by rw [rps_get S k 1 hk (by omega)]; rfl)
  · rw [← add_lits ad (k * 4) 2 (by omega)]
    exact hc _ _ (by rw [rps_get S k 2 hk (by omega)]; rfl)
  · rw [← add_lits ad (k * 4) 3 (by omega)]
    exact hc _ _ (by rw [rps_get S k 3 hk (by omega)]; rfl)
section
open Go.ChangeShapes Go.WideShapes
variable {H : Type} {enc : TypeId × Value → H} {w : World} {base : Nat} {spare : Nat → Bool} {held : Bool}
/-- orders that came in -/
theorem open_ods {fuel : Nat} {cs : List Value} {x : DataW H × List MemPlace} (h : DataW.trod enc Try.prog w base spare held fuel 22 cs = some x) :
    ∃ (A : Option Addr) (c : Nat) (l : List Od), cs = [.slice A l.length c] ∧ OdsS w w (Lt w.heap.size) A l ∧ l.length ≤ c ∧ c ≤ maxLen := by
  obtain ⟨A, c, cells, l, h1, h2, h3, h4, h5⟩ := open_each (OdR w) Try.underlying22 (size := 10) (by kernel_rfl) (by omega) (fun n cs x hx => by
    obtain ⟨o, v, h1, h2, h3, h4⟩ := open_od hx
    exact ⟨o, v, h1, h2, h3, h4⟩) h
  exact ⟨A, c, l, h1, ⟨cells, h2, h5⟩, h3, h4⟩
end
end Go.Proofs.Ytnphncemghfkbaa
