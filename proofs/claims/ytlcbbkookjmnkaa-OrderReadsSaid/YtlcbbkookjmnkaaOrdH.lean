/- What is read is an order that may come in; what is written is read. -/
import Derived.Test.YtlcbbkookjmnkaaOrdG
namespace Go.Proofs.Ytlcbbkookjmnkaa
open Go.RowKit Go.My Go.Maps
set_option linter.unusedSimpArgs false
set_option linter.unusedVariables false
attribute [local go_sem ↓] Go.wp_at_zero Go.wp_at_succ

theorem raw_ok (l : List UInt8) : (rawO l).o.ok ∧ ∀ g ∈ (rawO l).o.legs, g.ok := by
  unfold rawO
  simp only
  generalize hA : rint l 0 = a
  generalize hB : rint a.2.2 a.2.1 = b
  generalize hC : rint b.2.2 b.2.1 = c
  generalize hD : rtext 8 c.2.2 c.2.1 = d
  generalize hP : rtext 8 d.2.2 d.2.1 = p
  generalize hS : rnum p.2.2 p.2.1 = s
  generalize hN : rrange 0 6 s.2.2 s.2.1 = n
  generalize hG : rlegs n.1.toNat n.2.2 n.2.1 = g
  generalize hX : rint g.2.2 g.2.1 = x
  generalize hH : rint x.2.2 x.2.1 = h
  generalize hT : rtext 20 h.2.2 h.2.1 = t
  have ha : In64 a.1 := by rw [← hA]; exact rint_bd _ _
  have hb : In64 b.1 := by rw [← hB]; exact rint_bd _ _
  have hc : In64 c.1 := by rw [← hC]; exact rint_bd _ _
  have hd : (⟨d.1.toArray⟩ : ByteArray).size ≤ maxLen := by rw [← hD]; exact rtext_sz 8 (by omega) (by omega) _ _
  have hp : (⟨p.1.toArray⟩ : ByteArray).size ≤ maxLen := by rw [← hP]; exact rtext_sz 8 (by omega) (by omega) _ _
  have hs : In64 s.1 := by rw [← hS]; exact rnum_bd _ _
  have hg : ∀ k ∈ g.1, k.ok := by rw [← hG]; exact rlegs_ok _ _ _
  have hx : In64 x.1 := by rw [← hX]; exact rint_bd _ _
  have hh : In64 h.1 := by rw [← hH]; exact rint_bd _ _
  have ht : (⟨t.1.toArray⟩ : ByteArray).size ≤ maxLen := by rw [← hT]; exact rtext_sz 20 (by omega) (by omega) _ _
  clear hA hB hC hD hP hS hN hG hX hH hT
  exact ⟨⟨ha, hb, hc, hd, hp, hs, hx, hh, ht⟩, hg⟩
theorem noO_ok : noO.ok := by
  unfold noO Od.ok In64
  simp only
  refine ⟨by omega, by omega, by omega, by decide, by decide, by omega, by omega, by omega, by decide⟩
theorem read_ok (l : List UInt8) : (readO l).ok ∧ ∀ g ∈ (readO l).legs, g.ok := by
  unfold readO
  split
  · exact raw_ok l
  · exact ⟨noO_ok, fun g hg => by cases hg⟩
theorem LgS.of_own {w : World} {v : Value} {L : List Lg} (h : Own w 53 2 v L.length (lgs L)) (hk : ∀ g ∈ L, g.ok) : ∃ F, LgS w F v L := by
  obtain ⟨A, c, rfl, h1, h2⟩ := h.form
  exact ⟨_, A, c, _, rfl, h.rd, lgs_each L hk, h1, h2⟩
theorem LgS.any {w : World} {F : Nat → Prop} {v : Value} {L : List Lg} (h : LgS w F v L) : LgS w (fun _ => True) v L := by
  obtain ⟨A, c, cells, e, hr, r⟩ := h
  exact ⟨A, c, cells, e, hr.more (fun _ _ => True.intro), r⟩
/-- the bytes of an order are read as it -/
theorem back_case (o : Od) (ho : o.ok) (hg : ∀ g ∈ o.legs, g.ok) : (obE o = 0 ∧ readO (obL o) = o ∧ readE (obL o) = 0) ∨ obE o = 1 := by
  by_cases h : rightO o = true
  · left
    unfold obE obL
    rw [if_pos h, if_pos h]
    have := bytes_read h ho (fun g hg' => (hg g hg').2)
    exact ⟨rfl, this.2, by unfold readE; rw [if_pos this.1]⟩
  · right
    unfold obE
    rw [if_neg h]
/-- what is read is written as just these bytes -/
theorem again_case (B : List UInt8) : (readE B = 3 ∧ (readO B) = noO) ∨ (readE B = 0 ∧ obE (readO B) = 0 ∧ obL (readO B) = B ∧ rightO (readO B) = true) := by
  by_cases h : readB B = true
  · right
    have := read_bytes h
    unfold readE obE obL
    rw [if_pos h, if_pos this.1, if_pos this.1]
    exact ⟨rfl, rfl, this.2.1, this.1⟩
  · left
    unfold readE readO
    rw [if_neg h, if_neg h]
    exact ⟨rfl, rfl⟩
theorem obL_len (o : Od) : (obL o).length ≤ 1000 := by
  unfold obL
  split
  · rename_i h
    have hs := right_short h
    have h1 := head_len hs
    have h2 := legsBy_len hs.each
    have h3 := nB_len o.per
    have h4 := nB_len o.hold
    have h5 := tB_len o.note.data.toList
    have h6 := hs.note
    have h7 := hs.legs
    unfold bytesO tailB
    simp only [List.length_append]
    omega
  · simp
section
open Go.ChangeShapes Go.WideShapes
set_option maxRecDepth 100000 in
theorem open_odp {H : Type} {enc : TypeId × Value → H} {w : World} {r : Reach} {b0 : Nat} {v : Value} {d : DataW H} {p : List MemPlace} (hv : Value.okWide Try.prog w r b0 26 v)
    (h : DataW.Trod enc Try.prog w 0 (fun _ => true) true 26 v d p) : ∃ x : Od × Value, v = x.1.val x.2 ∧ OdI w x.1 x.2 := by
  obtain ⟨o, u, h⟩ := open_odv hv h
  exact ⟨⟨o, u⟩, h⟩
end
end Go.Proofs.Ytlcbbkookjmnkaa
