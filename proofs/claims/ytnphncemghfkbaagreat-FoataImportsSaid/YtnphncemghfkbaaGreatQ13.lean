/- What order.Read reads: in lists. The bytes of steps, and the steps of bytes: plain mathematics. foata.byId; the steps, sorted. foata.levels. slices.Max of numbers. -/
import Derived.Test.YtnphncemghfkbaaGreatQ12
import Derived.Test.YtnphncemghfkbaaGreatQ06
import Derived.Test.YtnphncemghfkbaaGreatQ07
import Derived.Test.YtnphncemghfkbaaGreatQ09
import Derived.Test.YtnphncemghfkbaaGreatQ11
import Derived.Shelf.SlSortCmp.WholeK
import Derived.Test.YtnphncemghfkbaaGreatSortH
import Derived.Shelf.SlSortCmp.NoneTotal
import Derived.Test.YtnphncemghfkbaaGreatQ10
import Derived.Test.YtnphncemghfkbaaGreatQ02
namespace Go.Proofs.YtnphncemghfkbaaGreat
open Go.RowKit Go.My Go.Maps
set_option linter.unusedSimpArgs false
set_option linter.unusedVariables false
attribute [local go_sem ↓] Go.wp_at_zero Go.wp_at_succ

def rint (l : List UInt8) (e : Nat) : Int × Nat × List UInt8 := rrange (-9223372036854775808) 9223372036854775807 l e
theorem rint_num (l : List UInt8) (e : Nat) (he : e < 5) : rint l e = rnum l e := by
  unfold rint rrange
  have hb := rnum_bd l e
  by_cases h : (rnum l e).2.1 ≠ 0
  · rw [if_pos h]
    unfold rnum at h ⊢
    by_cases h0 : e ≠ 0
    · simp only [if_pos h0]
    · rw [if_neg h0] at h ⊢
      by_cases h1 : (dec l).2.2 ≠ 0
      · simp only [if_pos h1]
      · rw [if_neg h1] at h
        exact absurd rfl h
  · rw [if_neg h, if_neg (by omega)]
/-- so many legs -/
def rlegs : Nat → List UInt8 → Nat → List Lg × Nat × List UInt8
  | 0, l, e => ([], e, l)
  | k + 1, l, e =>
    let t := rtext 8 l e
    let s := rnum t.2.2 t.2.1
    let r := rlegs k s.2.2 s.2.1
    (⟨⟨t.1.toArray⟩, s.1⟩ :: r.1, r.2)
structure Raw where
  o : Od
  e : Nat
  l : List UInt8
/-- the fields, one behind the other -/
def rawO (l : List UInt8) : Raw :=
  let a := rint l 0
  let b := rint a.2.2 a.2.1
  let c := rint b.2.2 b.2.1
  let d := rtext 8 c.2.2 c.2.1
  let p := rtext 8 d.2.2 d.2.1
  let s := rnum p.2.2 p.2.1
  let n := rrange 0 6 s.2.2 s.2.1
  let g := rlegs n.1.toNat n.2.2 n.2.1
  let x := rint g.2.2 g.2.1
  let h := rint x.2.2 x.2.1
  let t := rtext 20 h.2.2 h.2.1
  ⟨⟨a.1, b.1, c.1, ⟨d.1.toArray⟩, ⟨p.1.toArray⟩, s.1, g.1, x.1, h.1, ⟨t.1.toArray⟩⟩, t.2.1, t.2.2⟩
def readB (l : List UInt8) : Bool := decide (doneE (rawO l).l (rawO l).e = 0) && rightO (rawO l).o
def noO : Od := ⟨0, 0, 0, ⟨#[]⟩, ⟨#[]⟩, 0, [], 0, 0, ⟨#[]⟩⟩
def readO (l : List UInt8) : Od := if readB l = true then (rawO l).o else noO
def readE (l : List UInt8) : Int := if readB l = true then 0 else 3

theorem rtext_err (m : Int) (l : List UInt8) (e : Nat) (he : e < 5) : (rtext m l e).2.1 < 5 := by
  have h := rrange_err 0 m l e he
  unfold rtext
  split
  · exact h
  · split
    · show 4 < 5
      omega
    · show 0 < 5
      omega
theorem rint_err (l : List UInt8) (e : Nat) (he : e < 5) : (rint l e).2.1 < 5 := rrange_err _ _ l e he
theorem rtext_len (m : Int) (l : List UInt8) (e : Nat) : (rtext m l e).1.length ≤ l.length := by
  have hr : (rrange 0 m l e).2.2.length ≤ l.length := by
    have hn : (rnum l e).2.2.length ≤ l.length := by
      unfold rnum
      split
      · exact Nat.le_refl _
      · split
        · simp
        · simp
    unfold rrange
    split
    · exact hn
    · split
      · simp
      · exact hn
  unfold rtext
  split
  · simp
  · split
    · simp
    · simp only [List.length_take]
      omega
theorem rtext_most (m : Int) (hm : 0 ≤ m) (l : List UInt8) (e : Nat) : ((rtext m l e).1.length : Int) ≤ m := by
  unfold rtext
  split
  · simpa using hm
  · rename_i h
    split
    · simpa using hm
    · have h2 := rrange_ok 0 m l e (by omega)
      simp only [List.length_take]
      rw [h2.1]
      have := h2.2
      omega

/-! ### what is written is read -/
theorem rint_enc (x : Int) (rest : List UInt8) (h : In64 x) : rint (nB x ++ rest) 0 = (x, 0, rest) := by
  rw [rint_num _ _ (by omega)]
  exact rnum_enc x rest h
theorem rtxt_enc (m : Int) (s rest : List UInt8) (hm : (s.length : Int) ≤ m) (hl : s.length ≤ 1000000) : rtext m (tB s ++ rest) 0 = (s, 0, rest) := rtext_enc m s rest hm hl
theorem rrng_enc (lo hi x : Int) (rest : List UInt8) (h : In64 x) (h1 : lo ≤ x) (h2 : x ≤ hi) : rrange lo hi (nB x ++ rest) 0 = (x, 0, rest) := by
  have e : rnum (nB x ++ rest) 0 = (x, 0, rest) := rnum_enc x rest h
  unfold rrange
  rw [e]
  simp only [ne_eq, not_true_eq_false, if_false]
  rw [if_neg (by omega)]
theorem mk_toList (s : ByteArray) : (⟨s.data.toList.toArray⟩ : ByteArray) = s := rfl
theorem rlegs_enc : ∀ (L : List Lg) (rest : List UInt8), (∀ g ∈ L, g.nm.length ≤ 8 ∧ In64 g.sum) → rlegs L.length (legsBy L ++ rest) 0 = (L, 0, rest)
  | [], rest, _ => rfl
  | g :: r, rest, h => by
    obtain ⟨h1, h2⟩ := h g List.mem_cons_self
    have ih := rlegs_enc r rest (fun x hx => h x (List.mem_cons_of_mem _ hx))
    have e1 : legsBy (g :: r) ++ rest = tB g.nm ++ (nB g.sum ++ (legsBy r ++ rest)) := by
      show legBy g ++ legsBy r ++ rest = _
      unfold legBy
      simp only [List.append_assoc]
    rw [e1, List.length_cons]
    have e2 : rtext 8 (tB g.nm ++ (nB g.sum ++ (legsBy r ++ rest))) 0 = (g.nm, 0, nB g.sum ++ (legsBy r ++ rest)) := rtxt_enc 8 _ _ (by omega) (by omega)
    have e3 : rnum (nB g.sum ++ (legsBy r ++ rest)) 0 = (g.sum, 0, legsBy r ++ rest) := rnum_enc _ _ h2
    unfold rlegs
    simp only [e2, e3, ih]
    rfl
theorem raw_enc {o : Od} (hs : Short o) (ho : o.ok) (hg : ∀ g ∈ o.legs, In64 g.sum) : rawO (bytesO o) = ⟨o, 0, []⟩ := by
  obtain ⟨i1, i2, i3, i4, i5, i6, i7, i8, i9⟩ := ho
  have hl := hs.legs
  have e : bytesO o = nB o.cl ++ (nB o.sq ++ (nB o.kd ++ (tB o.an ++ (tB o.pn ++ (nB o.sum ++ (nB (o.legs.length : Int) ++ (legsBy o.legs ++ (nB o.per ++ (nB o.hold ++ (tB o.note.data.toList ++ [])))))))))) := by
    unfold bytesO headB tailB
    simp only [flatB_cons, flatB_nil, List.append_assoc, List.append_nil]
  unfold rawO
  rw [e]
  simp only [rint_enc _ _ i1, rint_enc _ _ i2, rint_enc _ _ i3, rtxt_enc 8 o.an _ (by have := hs.acct; omega) (by have := hs.acct; omega), rtxt_enc 8 o.pn _ (by have := hs.peer; omega) (by have := hs.peer; omega)]
  have e6 : ∀ rest, rnum (nB o.sum ++ rest) 0 = (o.sum, 0, rest) := fun rest => rnum_enc _ _ i6
  simp only [e6, rrng_enc 0 6 (o.legs.length : Int) _ (by unfold In64; omega) (by omega) (by omega), Int.toNat_natCast, rlegs_enc o.legs _ (fun g hg' => ⟨hs.each g hg', hg g hg'⟩), rint_enc _ _ i7, rint_enc _ _ i8,
    rtxt_enc 20 o.note.data.toList _ (by have := hs.note; omega) (by have := hs.note; omega)]
  rfl

/-! ### what is read is written so -/
theorem rnum_stick (l : List UInt8) (e : Nat) (h : (rnum l e).2.1 = 0) : e = 0 := by
  unfold rnum at h
  by_cases h0 : e ≠ 0
  · rw [if_pos h0] at h
    exact h
  · omega
theorem rrange_stick (lo hi : Int) (l : List UInt8) (e : Nat) (h : (rrange lo hi l e).2.1 = 0) : e = 0 := by
  have h2 := (rrange_ok lo hi l e h).1
  rw [h2] at h
  exact rnum_stick l e h
theorem rtext_stick (m : Int) (l : List UInt8) (e : Nat) (h : (rtext m l e).2.1 = 0) : (rrange 0 m l e).2.1 = 0 ∧ e = 0 := by
  unfold rtext at h
  by_cases h0 : (rrange 0 m l e).2.1 ≠ 0
  · rw [if_pos h0] at h
    exact absurd h h0
  · have h1 : (rrange 0 m l e).2.1 = 0 := by omega
    exact ⟨h1, rrange_stick 0 m l e h1⟩
theorem rlegs_stick : ∀ (k : Nat) (l : List UInt8) (e : Nat), (rlegs k l e).2.1 = 0 → e = 0
  | 0, _, _, h => h
  | k + 1, l, e, h => by
    unfold rlegs at h
    exact (rtext_stick _ _ _ (rnum_stick _ _ (rlegs_stick k _ _ h))).2
theorem rint_only (l : List UInt8) (h : (rint l 0).2.1 = 0) : l = nB (rint l 0).1 ++ (rint l 0).2.2 := by
  rw [rint_num _ _ (by omega)] at h ⊢
  exact rnum_only l h
theorem rrng_only (lo hi : Int) (l : List UInt8) (h : (rrange lo hi l 0).2.1 = 0) : l = nB (rrange lo hi l 0).1 ++ (rrange lo hi l 0).2.2 ∧ lo ≤ (rrange lo hi l 0).1 ∧ (rrange lo hi l 0).1 ≤ hi := by
  have h2 := rrange_ok lo hi l 0 h
  rw [h2.1] at h ⊢
  exact ⟨rnum_only l h, h2.2⟩
theorem rtxt_only (m : Int) (l : List UInt8) (h : (rtext m l 0).2.1 = 0) : l = tB (rtext m l 0).1 ++ (rtext m l 0).2.2 := by
  have h1 := (rtext_stick m l 0 h).1
  have h2 := rrng_only 0 m l h1
  unfold rtext at h ⊢
  rw [if_neg (by omega)] at h ⊢
  by_cases h3 : ((rrange 0 m l 0).2.2.length : Int) < (rrange 0 m l 0).1
  · rw [if_pos h3] at h
    exact absurd h (by decide)
  · rw [if_neg h3]
    simp only
    unfold tB
    have hlen : ((rrange 0 m l 0).2.2.take (rrange 0 m l 0).1.toNat).length = (rrange 0 m l 0).1.toNat := by
      rw [List.length_take]
      omega
    rw [hlen, Int.toNat_of_nonneg h2.2.1, List.append_assoc, List.take_append_drop]
    exact h2.1
theorem rlegs_only : ∀ (k : Nat) (l : List UInt8), (rlegs k l 0).2.1 = 0 → (rlegs k l 0).1.length = k ∧ l = legsBy (rlegs k l 0).1 ++ (rlegs k l 0).2.2
  | 0, _, _ => ⟨rfl, rfl⟩
  | k + 1, l, h => by
    unfold rlegs at h ⊢
    simp only at h ⊢
    have s3 := rlegs_stick k _ _ h
    rw [s3] at h ⊢
    have s2 := rnum_stick _ _ s3
    rw [s2] at s3 h ⊢
    have e1 := rtxt_only 8 l s2
    have e2 : (rtext 8 l 0).2.2 = nB (rnum (rtext 8 l 0).2.2 0).1 ++ (rnum (rtext 8 l 0).2.2 0).2.2 := rnum_only _ s3
    obtain ⟨i1, i2⟩ := rlegs_only k _ h
    refine ⟨by rw [List.length_cons, i1], ?_⟩
    show l = (legBy _ ++ legsBy _) ++ _
    unfold legBy
    simp only [Lg.nm]
    rw [List.append_assoc, List.append_assoc]
    rw [← i2, ← e2]
    exact e1
theorem raw_only {l : List UInt8} (he : (rawO l).e = 0) : l = bytesO (rawO l).o ++ (rawO l).l ∧ ((rawO l).o.legs.length ≤ 6) := by
  unfold rawO at he ⊢
  simp only at he ⊢
  generalize hA : rint l 0 = a at *
  generalize hB : rint a.2.2 a.2.1 = b at *
  generalize hC : rint b.2.2 b.2.1 = c at *
  generalize hD : rtext 8 c.2.2 c.2.1 = d at *
  generalize hP : rtext 8 d.2.2 d.2.1 = p at *
  generalize hS : rnum p.2.2 p.2.1 = s at *
  generalize hN : rrange 0 6 s.2.2 s.2.1 = n at *
  generalize hG : rlegs n.1.toNat n.2.2 n.2.1 = g at *
  generalize hX : rint g.2.2 g.2.1 = x at *
  generalize hH : rint x.2.2 x.2.1 = h at *
  generalize hT : rtext 20 h.2.2 h.2.1 = t at *
  have sh : h.2.1 = 0 := (rtext_stick 20 _ _ (by rw [hT]; exact he)).2
  have sx : x.2.1 = 0 := rrange_stick _ _ _ _ (by rw [show rrange _ _ _ _ = h from hH]; exact sh)
  have sg : g.2.1 = 0 := rrange_stick _ _ _ _ (by rw [show rrange _ _ _ _ = x from hX]; exact sx)
  have sn : n.2.1 = 0 := rlegs_stick _ _ _ (by rw [hG]; exact sg)
  have ss : s.2.1 = 0 := rrange_stick _ _ _ _ (by rw [hN]; exact sn)
  have sp : p.2.1 = 0 := rnum_stick _ _ (by rw [hS]; exact ss)
  have sd : d.2.1 = 0 := (rtext_stick 8 _ _ (by rw [hP]; exact sp)).2
  have sc : c.2.1 = 0 := (rtext_stick 8 _ _ (by rw [hD]; exact sd)).2
  have sb : b.2.1 = 0 := rrange_stick _ _ _ _ (by rw [show rrange _ _ _ _ = c from hC]; exact sc)
  have sa : a.2.1 = 0 := rrange_stick _ _ _ _ (by rw [show rrange _ _ _ _ = b from hB]; exact sb)
  rw [sa] at hB
  rw [sb] at hC
  rw [sc] at hD
  rw [sd] at hP
  rw [sp] at hS
  rw [ss] at hN
  rw [sn] at hG
  rw [sg] at hX
  rw [sx] at hH
  rw [sh] at hT
  have e1 := rint_only l (by rw [hA]; exact sa)
  have e2 := rint_only a.2.2 (by rw [hB]; exact sb)
  have e3 := rint_only b.2.2 (by rw [hC]; exact sc)
  have e4 := rtxt_only 8 c.2.2 (by rw [hD]; exact sd)
  have e5 := rtxt_only 8 d.2.2 (by rw [hP]; exact sp)
  have e6 : p.2.2 = nB (rnum p.2.2 0).1 ++ (rnum p.2.2 0).2.2 := rnum_only p.2.2 (by rw [hS]; exact ss)
  obtain ⟨e7, r1, r2⟩ := rrng_only 0 6 s.2.2 (by rw [hN]; exact sn)
  obtain ⟨i1, e8⟩ := rlegs_only n.1.toNat n.2.2 (by rw [hG]; exact sg)
  have e9 := rint_only g.2.2 (by rw [hX]; exact sx)
  have e10 := rint_only x.2.2 (by rw [hH]; exact sh)
  have e11 := rtxt_only 20 h.2.2 (by rw [hT]; exact he)
  rw [hA] at e1
  rw [hB] at e2
  rw [hC] at e3
  rw [hD] at e4
  rw [hP] at e5
  rw [hS] at e6
  rw [hN] at e7 r1 r2
  rw [hG] at i1 e8
  rw [hX] at e9
  rw [hH] at e10
  rw [hT] at e11
  refine ⟨?_, by omega⟩
  unfold bytesO headB tailB
  simp only [flatB_cons, flatB_nil, List.append_assoc, List.nil_append, List.append_nil, Od.an, Od.pn]
  rw [i1, Int.toNat_of_nonneg r1, ← e11, ← e10, ← e9, ← e8, ← e7, ← e6, ← e5, ← e4, ← e3, ← e2]
  exact e1
theorem nil_of_done {l : List UInt8} {e : Nat} (h : doneE l e = 0) : e = 0 ∧ l = [] := by
  unfold doneE at h
  split at h
  · rename_i h0
    split at h
    · rename_i h1
      exact ⟨h0, h1⟩
    · cases h
  · rename_i h0
    exact absurd h h0
/-- what is read is written as just these bytes -/
theorem read_bytes {l : List UInt8} (h : readB l = true) : rightO (readO l) = true ∧ bytesO (readO l) = l ∧ readO l = (rawO l).o := by
  have h0 := h
  unfold readB at h
  rw [Bool.and_eq_true, decide_eq_true_eq] at h
  obtain ⟨h1, h2⟩ := nil_of_done h.1
  have e : readO l = (rawO l).o := by unfold readO; rw [if_pos h0]
  have h3 := (raw_only h1).1
  rw [h2, List.append_nil] at h3
  rw [e]
  exact ⟨h.2, h3.symm, rfl⟩
/-- what is written is read -/
theorem bytes_read {o : Od} (hr : rightO o = true) (ho : o.ok) (hg : ∀ g ∈ o.legs, In64 g.sum) : readB (bytesO o) = true ∧ readO (bytesO o) = o := by
  have h := raw_enc (right_short hr) ho hg
  have hb : readB (bytesO o) = true := by
    unfold readB
    rw [h]
    simp only [hr, Bool.and_true, decide_eq_true_eq]
    rfl
  refine ⟨hb, ?_⟩
  unfold readO
  rw [if_pos hb, h]
end Go.Proofs.YtnphncemghfkbaaGreat

namespace Go.Proofs.YtnphncemghfkbaaGreat
open Go.RowKit Go.My
set_option linter.unusedSimpArgs false
set_option linter.unusedVariables false

def ordsB (L : List Od) : List UInt8 := L.flatMap fun o => tB (bytesO o)
def stepB (s : List Od) : List UInt8 := nB (s.length : Int) ++ ordsB s
def rowsB (S : List (List Od)) : List UInt8 := S.flatMap stepB
def stepsB (S : List (List Od)) : List UInt8 := nB (S.length : Int) ++ rowsB S
/-- an order that has bytes -/
def Good (o : Od) : Prop := rightO o = true ∧ o.ok ∧ (∀ g ∈ o.legs, In64 g.sum) ∧ (bytesO o).length ≤ 1000

def rords : Nat → List UInt8 → Option (List Od × List UInt8)
  | 0, l => some ([], l)
  | k + 1, l => if (rtext 1000 l 0).2.1 = 0 ∧ readB (rtext 1000 l 0).1 = true then (rords k (rtext 1000 l 0).2.2).map fun r => (readO (rtext 1000 l 0).1 :: r.1, r.2) else none
def rstep (most : Int) (l : List UInt8) : Option (List Od × List UInt8) :=
  if (rrange 1 most l 0).2.1 = 0 then rords (rrange 1 most l 0).1.toNat (rrange 1 most l 0).2.2 else none
def rrows : Nat → Int → List UInt8 → Option (List (List Od) × List UInt8)
  | 0, _, l => some ([], l)
  | k + 1, left, l => (rstep left l).bind fun s => (rrows k (left - s.1.length) s.2).map fun q => (s.1 :: q.1, q.2)
/-- the rows of bytes, whether they are normal or not -/
def rsteps (l : List UInt8) : Option (List (List Od)) :=
  if (rrange 0 200 l 0).2.1 = 0 then (rrows (rrange 0 200 l 0).1.toNat 200 (rrange 0 200 l 0).2.2).bind fun q => if q.2 = [] then some q.1 else none else none

theorem rords_enc : ∀ (L : List Od) (rest : List UInt8), (∀ o ∈ L, Good o) → rords L.length (ordsB L ++ rest) = some (L, rest)
  | [], rest, _ => rfl
  | o :: L, rest, h => by
    obtain ⟨h1, h2, h3, h4⟩ := h o List.mem_cons_self
    have hb := bytes_read h1 h2 h3
    have ht := rtxt_enc 1000 (bytesO o) (ordsB L ++ rest) (by omega) (by omega)
    have he : ordsB (o :: L) ++ rest = tB (bytesO o) ++ (ordsB L ++ rest) := by unfold ordsB; rw [List.flatMap_cons, List.append_assoc]
    rw [List.length_cons, he, rords, ht]
    simp only
    rw [if_pos ⟨trivial, hb.1⟩, rords_enc L rest fun x hx => h x (List.mem_cons_of_mem _ hx), hb.2]
    rfl
theorem rords_only : ∀ (k : Nat) (l : List UInt8) (L : List Od) (rest : List UInt8), rords k l = some (L, rest) → L.length = k ∧ (∀ o ∈ L, rightO o = true) ∧ l = ordsB L ++ rest
  | 0, l, L, rest, h => by
    simp only [rords, Option.some.injEq, Prod.mk.injEq] at h
    obtain ⟨rfl, rfl⟩ := h
    exact ⟨rfl, fun o ho => absurd ho List.not_mem_nil, rfl⟩
  | k + 1, l, L, rest, h => by
    rw [rords] at h
    split at h
    · rename_i hc
      rw [Option.map_eq_some_iff] at h
      obtain ⟨⟨L', r'⟩, h1, h2⟩ := h
      simp only [Prod.mk.injEq] at h2
      obtain ⟨rfl, rfl⟩ := h2
      obtain ⟨k1, k2, k3⟩ := rords_only k _ _ _ h1
      have hr := read_bytes hc.2
      have hl := rtxt_only 1000 l hc.1
      refine ⟨by rw [List.length_cons, k1], fun o ho => ?_, ?_⟩
      · rcases List.mem_cons.1 ho with e | ho
        · rw [e]; exact hr.1
        · exact k2 o ho
      · unfold ordsB at k3 ⊢
        rw [List.flatMap_cons, hr.2.1, List.append_assoc, ← k3]
        exact hl
    · cases h
theorem rstep_enc (most : Int) (s : List Od) (rest : List UInt8) (h : ∀ o ∈ s, Good o) (h1 : s ≠ []) (h2 : (s.length : Int) ≤ most) (h3 : s.length ≤ 1000000) : rstep most (stepB s ++ rest) = some (s, rest) := by
  have hp := List.length_pos_iff.2 h1
  have hr := rrng_enc 1 most (s.length : Int) (ordsB s ++ rest) ⟨by omega, by omega⟩ (by omega) h2
  unfold rstep stepB
  rw [List.append_assoc, hr]
  simp only [if_true, Int.toNat_natCast]
  exact rords_enc s rest h
theorem rstep_only (most : Int) (l : List UInt8) (s : List Od) (rest : List UInt8) (h : rstep most l = some (s, rest)) : s ≠ [] ∧ (s.length : Int) ≤ most ∧ (∀ o ∈ s, rightO o = true) ∧ l = stepB s ++ rest := by
  unfold rstep at h
  split at h
  · rename_i hc
    obtain ⟨k1, k2, k3⟩ := rords_only _ _ _ _ h
    obtain ⟨h1, h2, h4⟩ := rrng_only 1 most l hc
    have hn : ((rrange 1 most l 0).1.toNat : Int) = (rrange 1 most l 0).1 := Int.toNat_of_nonneg (by omega)
    refine ⟨fun e => ?_, by omega, k2, ?_⟩
    · subst e; simp only [List.length_nil] at k1; omega
    · unfold stepB
      rw [k1, hn, List.append_assoc, ← k3]
      exact h1
  · cases h
def sumLen (S : List (List Od)) : Nat := S.flatten.length
theorem rrows_enc : ∀ (S : List (List Od)) (left : Int) (rest : List UInt8), (∀ s ∈ S, s ≠ [] ∧ ∀ o ∈ s, Good o) → (S.flatten.length : Int) ≤ left → left ≤ 200 → rrows S.length left (rowsB S ++ rest) = some (S, rest)
  | [], left, rest, _, _, _ => rfl
  | s :: S, left, rest, h, hl, hl2 => by
    obtain ⟨h1, h2⟩ := h s List.mem_cons_self
    rw [List.flatten_cons, List.length_append] at hl
    have hs := rstep_enc left s (rowsB S ++ rest) h2 h1 (by omega) (by omega)
    have he : rowsB (s :: S) ++ rest = stepB s ++ (rowsB S ++ rest) := by unfold rowsB; rw [List.flatMap_cons, List.append_assoc]
    rw [List.length_cons, he, rrows, hs, Option.bind_some]
    show (rrows S.length (left - s.length) (rowsB S ++ rest)).map _ = _
    rw [rrows_enc S _ rest (fun x hx => h x (List.mem_cons_of_mem _ hx)) (by omega) (by omega)]
    rfl
theorem rrows_only : ∀ (k : Nat) (left : Int) (l : List UInt8) (S : List (List Od)) (rest : List UInt8), 0 ≤ left → rrows k left l = some (S, rest) → S.length = k ∧ (∀ s ∈ S, s ≠ [] ∧ ∀ o ∈ s, rightO o = true) ∧ (S.flatten.length : Int) ≤ left ∧ l = rowsB S ++ rest
  | 0, left, l, S, rest, h0, h => by
    simp only [rrows, Option.some.injEq, Prod.mk.injEq] at h
    obtain ⟨rfl, rfl⟩ := h
    exact ⟨rfl, fun o ho => absurd ho List.not_mem_nil, by simpa using h0, rfl⟩
  | k + 1, left, l, S, rest, h0, h => by
    rw [rrows, Option.bind_eq_some_iff] at h
    obtain ⟨⟨s, r⟩, hs, h⟩ := h
    rw [Option.map_eq_some_iff] at h
    obtain ⟨⟨S', r'⟩, h1, h2⟩ := h
    simp only [Prod.mk.injEq] at h2
    obtain ⟨rfl, rfl⟩ := h2
    obtain ⟨a1, a2, a3, a4⟩ := rstep_only _ _ _ _ hs
    obtain ⟨b1, b2, b3, b4⟩ := rrows_only k _ _ _ _ (by simp only; omega) h1
    refine ⟨by rw [List.length_cons, b1], fun x hx => ?_, ?_, ?_⟩
    · rcases List.mem_cons.1 hx with rfl | hx
      · exact ⟨a1, a3⟩
      · exact b2 x hx
    · rw [List.flatten_cons, List.length_append]
      simp only at b3
      omega
    · simp only at b4
      unfold rowsB at b4 ⊢
      rw [List.flatMap_cons, List.append_assoc, ← b4]
      exact a4
theorem rsteps_enc (S : List (List Od)) (h : ∀ s ∈ S, s ≠ [] ∧ ∀ o ∈ s, Good o) (hl : S.flatten.length ≤ 200) : rsteps (stepsB S) = some S := by
  have hlen : S.length ≤ S.flatten.length := by
    clear hl
    induction S with
    | nil => simp
    | cons s S ih =>
      have := List.length_pos_iff.2 (h s List.mem_cons_self).1
      have := ih fun x hx => h x (List.mem_cons_of_mem _ hx)
      rw [List.flatten_cons, List.length_append, List.length_cons]
      omega
  have hr := rrng_enc 0 200 (S.length : Int) (rowsB S) ⟨by omega, by omega⟩ (by omega) (by omega)
  have he := rrows_enc S 200 [] h (by omega) (by omega)
  rw [List.append_nil] at he
  unfold rsteps stepsB
  rw [hr]
  simp only [if_true, Int.toNat_natCast]
  rw [he]
  rfl
theorem rsteps_only {l : List UInt8} {S : List (List Od)} (h : rsteps l = some S) : (∀ s ∈ S, s ≠ [] ∧ ∀ o ∈ s, rightO o = true) ∧ S.flatten.length ≤ 200 ∧ l = stepsB S := by
  unfold rsteps at h
  split at h
  · rename_i hc
    rw [Option.bind_eq_some_iff] at h
    obtain ⟨⟨S', r⟩, h1, h2⟩ := h
    simp only at h2
    split at h2
    · rename_i hr
      obtain rfl : S' = S := by simpa using h2
      subst hr
      obtain ⟨b1, b2, b3, b4⟩ := rrows_only _ _ _ _ _ (by omega) h1
      obtain ⟨c1, c2, c3⟩ := rrng_only 0 200 l hc
      have hn : ((rrange 0 200 l 0).1.toNat : Int) = (rrange 0 200 l 0).1 := Int.toNat_of_nonneg (by omega)
      refine ⟨b2, by omega, ?_⟩
      unfold stepsB
      rw [List.append_nil] at b4
      rw [b1, hn, ← b4]
      exact c1
    · cases h2
  · cases h
/-- no two rows have the same bytes -/
theorem stepsB_inj {S T : List (List Od)} (hS : ∀ s ∈ S, s ≠ [] ∧ ∀ o ∈ s, Good o) (hT : ∀ s ∈ T, s ≠ [] ∧ ∀ o ∈ s, Good o) (h1 : S.flatten.length ≤ 200) (h2 : T.flatten.length ≤ 200) (h : stepsB S = stepsB T) : S = T := by
  have a := rsteps_enc S hS h1
  rw [h, rsteps_enc T hT h2] at a
  exact (Option.some.inj a).symm

/-- Ids: the client's number ahead -/
def ltI (a b : Idk) : Prop := a.1 < b.1 ∨ a.1 = b.1 ∧ a.2 < b.2
theorem ltI_irr (k : Idk) : ¬ ltI k k := by unfold ltI; omega
theorem ltI_trans (a b c : Idk) (h : ltI a b) (k : ltI b c) : ltI a c := by unfold ltI at *; omega
theorem ltI_total {a b : Idk} (h : a ≠ b) : ltI a b ∨ ltI b a := by
  unfold ltI
  by_cases h1 : a.1 = b.1
  · have h2 : a.2 ≠ b.2 := fun e => h (Prod.ext h1 e)
    omega
  · omega
/-- the steps of a list of orders -/
abbrev StepsO (l : List Od) (S : List (List Od)) : Prop := StepsR Od.id clashB ltI l S
/-- the same bytes just if they are alike -/
theorem stepsB_alike {a b : List Od} (ha : Rt Od.id a) (hb : Rt Od.id b) {S T : List (List Od)} (h : StepsO a S) (k : StepsO b T) (ga : ∀ o ∈ a, Good o) (gb : ∀ o ∈ b, Good o) (la : a.length ≤ 200) (lb : b.length ≤ 200) : stepsB S = stepsB T ↔ Ak Od.id clashB a b := by
  rw [← StepsR.iff clashB_comm ltI_irr ltI_trans ha hb h k]
  have hS : ∀ {l : List Od} {S : List (List Od)}, Rt Od.id l → StepsO l S → (∀ o ∈ l, Good o) → l.length ≤ 200 → (∀ s ∈ S, s ≠ [] ∧ ∀ o ∈ s, Good o) ∧ S.flatten.length ≤ 200 := by
    intro l S hl h g hn
    have hk := h.lay clashB_comm ltI_irr hl
    refine ⟨fun s hs => ?_, by rw [← hk.1]; exact hn⟩
    obtain ⟨i, hi, rfl⟩ := List.mem_iff_getElem.1 hs
    exact ⟨h.2.1 i hi, fun o ho => g o (lev_mem (((h.2.2 i hi).2 o).1 ho))⟩
  obtain ⟨p1, p2⟩ := hS ha h ga la
  obtain ⟨q1, q2⟩ := hS hb k gb lb
  exact ⟨fun e => stepsB_inj p1 q1 p2 q2 e, fun e => by rw [e]⟩
end Go.Proofs.YtnphncemghfkbaaGreat

namespace Go.Proofs.YtnphncemghfkbaaGreat
open Go.RowKit Go.My Go.Maps Go.WideMaps Go.Sort
set_option linter.unusedSimpArgs false
set_option linter.unusedVariables false
attribute [local go_sem ↓] Go.wp_at_zero Go.wp_at_succ

def bO (p q : Ov) : Bool := aheadI p.1.cl p.1.sq q.1.cl q.1.sq
theorem bO_iff (p q : Ov) : bO p q = true ↔ ltI p.1.id q.1.id := by
  unfold bO aheadI ltI Od.id
  rw [decide_eq_true_eq]
def cfO (p q : Ov) : Int := if bO p q then -1 else if bO q p then 1 else 0
instance : Inhabited Ov := ⟨(noO, (none, 0, 0))⟩
theorem ltO (p q : Ov) : ltOf cfO p q = bO p q := by
  unfold ltOf cfO
  cases h : bO p q
  · rw [if_neg (by decide)]
    cases h2 : bO q p
    · rfl
    · rfl
  · rfl
theorem swoO : SWO (ltOf cfO) where
  irrefl x := by
    rw [ltO]
    cases h : bO x x with
    | false => rfl
    | true => exact absurd ((bO_iff _ _).1 h) (ltI_irr _)
  trans x y z h1 h2 := by
    rw [ltO, bO_iff] at *
    exact ltI_trans _ _ _ h1 h2
  ntrans x y z h1 h2 := by
    rw [ltO] at *
    cases h : bO x z with
    | false => rfl
    | true =>
      rw [bO_iff] at h
      by_cases e : y.1.id = x.1.id
      · have : bO y z = true := by rw [bO_iff, e]; exact h
        rw [this] at h2; cases h2
      · rcases ltI_total e with g | g
        · have : bO y z = true := (bO_iff _ _).2 (ltI_trans _ _ _ g h)
          rw [this] at h2; cases h2
        · have := (bO_iff x y).2 g
          rw [this] at h1; cases h1
set_option maxRecDepth 100000 in
set_option maxHeartbeats 1000000 in
theorem byId_any (x y : Ov) (W : World) : Calls Tryz.prog 41 #[.agg (encO x).toArray, .agg (encO y).toArray] W fun e w' => e = .returned (.int .i64 (cfO x y)) ∧ ∃ q os', w' = grow (W.drewN q) os' := by
  have HA := Lib.hid (fun a b c d W => oahead_grow a b c d W)
  obtain ⟨⟨a0, a1, a2, a3, a4, a5, a6, a7, a8, a9⟩, va⟩ := x
  obtain ⟨⟨b0, b1, b2, b3, b4, b5, b6, b7, b8, b9⟩, vb⟩ := y
  have HC : Hid (cfO (⟨a0, a1, a2, a3, a4, a5, a6, a7, a8, a9⟩, va) (⟨b0, b1, b2, b3, b4, b5, b6, b7, b8, b9⟩, vb) = if aheadI a0 a1 b0 b1 then -1 else if aheadI b0 b1 a0 a1 then 1 else 0) := rfl
  generalize cfO (⟨a0, a1, a2, a3, a4, a5, a6, a7, a8, a9⟩, va) (⟨b0, b1, b2, b3, b4, b5, b6, b7, b8, b9⟩, vb) = r at *
  unfold encO Od.cs svV
  have HA1 := Lib.hid (fun W => HA.out a0 a1 b0 b1 W)
  have HA2 := Lib.hid (fun W => HA.out b0 b1 a0 a1 W)
  clear HA
  generalize aheadI a0 a1 b0 b1 = t at *
  generalize aheadI b0 b1 a0 a1 = u at *
  have HG : Hid (∀ (o1 o2 : Obj) (q1 q2 : Nat) (os1 os2 : Array Obj) (w1 w2 : World), w1 = grow (((W.alloc o1).alloc o2).drewN q1) os1 → w2 = grow (w1.drewN q2) os2 → ∃ q os', w2 = grow (W.drewN q) os') := by
    rintro o1 o2 q1 q2 os1 os2 w1 w2 rfl rfl
    refine ⟨q1 + q2, #[o1] ++ #[o2] ++ os1 ++ os2, ?_⟩
    rw [alloc_eq_grow, alloc_eq_grow, grow_grow]
    unfold grow World.drewN
    simp [Array.append_assoc, Nat.add_assoc]
  have HG1 : Hid (∀ (w1 : World), w1 = grow (w1.drewN 0) #[]) := by
    intro w1
    unfold grow World.drewN
    simp
  have HB0 := Lib.hid ((Blk.new W 47 #[.int .i64 a0, .int .i64 a1, .int .i64 a2, .string a3, .string a4, .int .i64 a5, .slice va.1 va.2.1 va.2.2, .int .i64 a7, .int .i64 a8, .string a9]).alloc (.cells #[.int .i64 b0, .int .i64 b1, .int .i64 b2, .string b3, .string b4, .int .i64 b5, .slice vb.1 vb.2.1 vb.2.2, .int .i64 b7, .int .i64 b8, .string b9] 47))
  have HB1 : Hid (Blk ((W.alloc (.cells #[.int .i64 a0, .int .i64 a1, .int .i64 a2, .string a3, .string a4, .int .i64 a5, .slice va.1 va.2.1 va.2.2, .int .i64 a7, .int .i64 a8, .string a9] 47)).alloc (.cells #[.int .i64 b0, .int .i64 b1, .int .i64 b2, .string b3, .string b4, .int .i64 b5, .slice vb.1 vb.2.1 vb.2.2, .int .i64 b7, .int .i64 b8, .string b9] 47)) (W.heap.size + 1) 47 #[.int .i64 b0, .int .i64 b1, .int .i64 b2, .string b3, .string b4, .int .i64 b5, .slice vb.1 vb.2.1 vb.2.2, .int .i64 b7, .int .i64 b8, .string b9]) := by
    have h := Blk.new (W.alloc (.cells #[.int .i64 a0, .int .i64 a1, .int .i64 a2, .string a3, .string a4, .int .i64 a5, .slice va.1 va.2.1 va.2.2, .int .i64 a7, .int .i64 a8, .string a9] 47)) 47 #[.int .i64 b0, .int .i64 b1, .int .i64 b2, .string b3, .string b4, .int .i64 b5, .slice vb.1 vb.2.1 vb.2.2, .int .i64 b7, .int .i64 b8, .string b9]
    rw [World.size_alloc] at h
    exact h
  cases t
  · cases u
    · go_enter Tryz.func41, Tryz.ntmps41
      go_wp2_with fail
      (with_reducible refine (HA1.out _).mono ?_)
      rintro e w1 ⟨rfl, q1, os1, hw1⟩
      have HW1 := Lib.hid hw1
      have hb0 := HB0.out.fr (by rw [hw1]; exact fr_grow _ q1 os1 : Fr No _ w1) (fun h => h)
      have hb1 := HB1.out.fr (by rw [hw1]; exact fr_grow _ q1 os1 : Fr No _ w1) (fun h => h)
      have x0 := hb0.cell 0
      have x1 := hb0.cell 1
      have y0 := hb1.cell 0
      have y1 := hb1.cell 1
      simp only [List.getElem?_toArray, List.getElem?_cons_zero, List.getElem?_cons_succ] at x0 x1 y0 y1
      clear hw1 hb0 hb1
      go_wp2_with fail
      (with_reducible refine (HA2.out _).mono ?_)
      rintro e w2 ⟨rfl, q2, os2, hw2⟩
      have HW2 := Lib.hid hw2
      clear hw2
      go_wp2
      go_ret
      exact ⟨by rw [HC.out]; rfl, HG.out _ _ _ _ _ _ _ _ HW1.out HW2.out⟩
    · go_enter Tryz.func41, Tryz.ntmps41
      go_wp2_with fail
      (with_reducible refine (HA1.out _).mono ?_)
      rintro e w1 ⟨rfl, q1, os1, hw1⟩
      have HW1 := Lib.hid hw1
      have hb0 := HB0.out.fr (by rw [hw1]; exact fr_grow _ q1 os1 : Fr No _ w1) (fun h => h)
      have hb1 := HB1.out.fr (by rw [hw1]; exact fr_grow _ q1 os1 : Fr No _ w1) (fun h => h)
      have x0 := hb0.cell 0
      have x1 := hb0.cell 1
      have y0 := hb1.cell 0
      have y1 := hb1.cell 1
      simp only [List.getElem?_toArray, List.getElem?_cons_zero, List.getElem?_cons_succ] at x0 x1 y0 y1
      clear hw1 hb0 hb1
      go_wp2_with fail
      (with_reducible refine (HA2.out _).mono ?_)
      rintro e w2 ⟨rfl, q2, os2, hw2⟩
      have HW2 := Lib.hid hw2
      clear hw2
      go_wp2
      go_ret
      exact ⟨by rw [HC.out]; rfl, HG.out _ _ _ _ _ _ _ _ HW1.out HW2.out⟩
  · go_enter Tryz.func41, Tryz.ntmps41
    go_wp2_with fail
    (with_reducible refine (HA1.out _).mono ?_)
    rintro e w1 ⟨rfl, q1, os1, hw1⟩
    have HW1 := Lib.hid hw1
    clear hw1
    go_wp2
    go_ret
    exact ⟨by rw [HC.out]; rfl, HG.out _ _ _ _ _ _ _ _ HW1.out (HG1.out _)⟩
theorem cmpO_any (blk off size : Nat) (w : World) : CmpLays Tryz.prog 41 #[] encO 10 cfO blk off size w :=
  fun _ _ _ _ x y => byId_any x y _

theorem ocs_at (L : List Ov) (t : Nat) (h : t < L.length * 10) : (ocs L)[t]? = (encO (L[t / 10]!))[t % 10]? := by
  have h1 : t / 10 < L.length := by omega
  have h2 := flatE_at (n := 10) (by omega) encO_len L (t / 10) (t % 10) h1 (by omega)
  rw [show t / 10 * 10 + t % 10 = t by omega] at h2
  rw [getElem!_pos L (t / 10) h1]
  exact h2
theorem flat_ocs (L : List Ov) : flatK encO 10 L.toArray = (ocs L).toArray := by
  refine ext_get! (by rw [size_flatK]; simp [ocs_length]) fun t ht => ?_
  have ht' : t < L.length * 10 := by rw [size_flatK] at ht; simpa using ht
  rw [get_flatK _ _ _ _ (by simpa using ht')]
  have h1 := ocs_at L t ht'
  have h2 : t < (ocs L).length := by rw [ocs_length]; exact ht'
  rw [List.getElem?_eq_getElem h2] at h1
  rw [getElem!_pos _ t (by simpa using h2)]
  simp only [List.getElem_toArray]
  have e1 : L.toArray[t / 10]! = L[t / 10]! := by simp
  rw [e1]
  obtain ⟨h3, h4⟩ := List.getElem?_eq_some_iff.1 h1.symm
  rw [List.getElem!_eq_getElem?_getD, List.getElem?_eq_getElem h3, Option.getD_some, h4]
/-- the cells of a block where a row has been laid at its head -/
theorem take_putO (F : Array Value) (cur : Array Value) (hl : F.size ≤ cur.size) : (putCells id 0 F cur).toList.take F.size = F.toList := by
  apply List.ext_getElem?
  intro t
  rw [List.getElem?_take]
  by_cases h : t < F.size
  · rw [if_pos h]
    unfold putCells
    simp only [Array.getElem?_toList, Array.getElem?_mapIdx]
    rw [Array.getElem?_eq_getElem (by omega), Array.getElem?_eq_getElem h]
    simp only [Option.map_some]
    rw [if_pos ⟨by omega, by omega⟩]
    simp [h]
  · rw [if_neg h, Array.getElem?_toList, Array.getElem?_eq_none (by omega)]
theorem heap_sortWorldO (w : World) (g n : Nat) (d : Array Ov) (os : Array Obj) {cur : Array Value} (hg : w.heap[g]? = some (.cells cur 47 (0, 0))) :
    (sortWorldK encO 10 w g 0 n d os).heap[g]? = some (.cells (putCells id 0 (flatK encO 10 d) cur) 47 (0, 0)) := by
  have hlt := (Array.getElem?_eq_some_iff.1 hg).1
  unfold sortWorldK putRowK putRow
  rw [heap_grow_old _ _ (by show g < (w.heap.modify g _).size; simpa using hlt)]
  show (w.heap.modify g _)[g]? = _
  rw [Array.getElem?_modify, if_pos rfl, hg]
  rfl
theorem fr_sortWorldO (w : World) (g n : Nat) (d : Array Ov) (os : Array Obj) : Fr (At1 g) w (sortWorldK encO 10 w g 0 n d os) := by
  refine ⟨rfl, rfl, rfl, ?_, fun k hk hn => ?_⟩
  · have := size_sortWorldK_c encO 10 w g 0 n d os
    exact this
  · unfold sortWorldK putRowK putRow
    rw [heap_grow_old _ _ (by show k < (w.heap.modify g _).size; simpa using hk)]
    show (w.heap.modify g _)[k]? = _
    rw [Array.getElem?_modify, if_neg (fun e : g = k => hn e.symm)]

def SortedO (w : World) (v : Value) (L : List Ov) (e : Ending) (w' : World) : Prop :=
  e = .returned (.tuple #[]) ∧ ∃ L', L'.Perm L ∧ (L'.Pairwise fun a b => bO b a = false) ∧ Own w' 47 10 v L.length (ocs L') ∧ Fr (AtO v.ownBlock) w w'
theorem sortO_any (L : List Ov) (v : Value) (w : World) (h : Own w 47 10 v L.length (ocs L)) (hl : L.length < 1000000) :
    Calls Tryz.prog 40 #[v, .func (.func 41) #[] #[]] w (SortedO w v L) := by
  rcases h.2 with ⟨rfl, h0⟩ | ⟨g, cap, cur, rfl, hg, hle, hm, hs, ht⟩
  · have hL : L = [] := List.length_eq_zero_iff.1 h0
    subst hL
    have h1 := AnyF.slices_SortFunc_none Tryz.sortH none 0 (.func (.func 41) #[] #[]) w
    refine Calls.mono h1 ?_
    rintro e w' ⟨rfl, rfl⟩
    exact ⟨rfl, [], List.Perm.refl _, List.Pairwise.nil, Own.nil _ _ _, Fr.refl _ _⟩
  · have hlt := (Array.getElem?_eq_some_iff.1 hg).1
    have hcs : L.length * 10 ≤ cur.size := Nat.le_trans (Nat.mul_le_mul_right 10 hle) hs
    have hH : HoldsK encO 10 w g 0 L.toArray := by
      intro j hj
      rw [flat_ocs] at hj ⊢
      have hj' : j < (ocs L).length := by simpa using hj
      rw [Nat.zero_add, cell_of_row w g j cur _ _ hg]
      constructor
      · have : (cur.toList.take (L.length * 10))[j]? = (ocs L)[j]? := by rw [ht]
        rw [List.getElem?_take, if_pos (by rw [ocs_length] at hj'; exact hj'), Array.getElem?_toList] at this
        rw [this, List.getElem?_eq_getElem hj', getElem!_pos _ j (by simpa using hj')]
        simp
      · exact Blk.frozen (t := 47) (cs := cur) hg j
    have eg : ∀ args w, (callFunc 41 args).run Tryz.prog w = .ok (.enter 41 args) w := enters_of Tryz.func41 (by kernel_rfl) rfl
    have hcon := AnyQ.slices_SortFunc Tryz.sortH 10 Tryz.isAgg47 Tryz.sizeOf47 encO encO_len (fun x v hv => enc_ones x v hv) cfO swoO 41 #[] g 0 cap L.toArray w eg (cmpO_any g 0 _ w) hH hlt (by simp; omega)
    refine Calls.mono hcon ?_
    rintro e w' ⟨rfl, d', n, os, hp, hsd, rfl⟩
    have hsz : d'.size = L.length := by have := hp.1; simpa using this
    have hperm : d'.toList.Perm L := by
      have := hp.2.2
      rw [Array.extract_eq_self_of_le (by rw [hsz]; simp), Array.extract_eq_self_of_le (by simp)] at this
      simpa using this
    refine ⟨rfl, d'.toList, hperm, ?_, ?_, ?_⟩
    · rw [List.pairwise_iff_getElem]
      intro i j hi hj hij
      have hj' : j < d'.size := by simpa using hj
      have hi' : i < d'.size := by simpa using hi
      have := hsd i j (Nat.zero_le _) hij (by simpa [hsz] using hj')
      rw [ltO, getElem!_pos d' j hj', getElem!_pos d' i hi'] at this
      simpa using this
    · have hfl : flatK encO 10 d' = (ocs d'.toList).toArray := by
        have := flat_ocs d'.toList
        simpa using this
      refine ⟨by rw [ocs_length]; simp [hsz], .inr ⟨g, cap, _, rfl, heap_sortWorldO w g n d' os hg, hle, hm, ?_, ?_⟩⟩
      · unfold putCells
        simpa using hs
      · have h1 := take_putO (flatK encO 10 d') cur (by rw [size_flatK, hsz]; exact hcs)
        rw [size_flatK, hsz] at h1
        rw [h1, hfl]
    · refine (fr_sortWorldO w g n d' os).mono fun k _ hk => ?_
      exact congrArg some (show k = g from hk).symm
end Go.Proofs.YtnphncemghfkbaaGreat

namespace Go.Proofs.YtnphncemghfkbaaGreat
open Go.RowKit Go.My Go.Maps Go.WideMaps
set_option linter.unusedSimpArgs false
set_option linter.unusedVariables false
attribute [local go_sem ↓] Go.wp_at_zero Go.wp_at_succ

/-- a cell of a row of the call's own -/
theorem own_cell1 {w : World} {e : TypeId} {g n c : Nat} {xs : List Value} (h : Own w e 1 (.slice (some ⟨g, 0, none⟩) n c) n xs) {j : Nat} {u : Value} (hj : j < n) (hu : xs[j]? = some u) : w.cell? ⟨g, j, none⟩ = some u := by
  obtain ⟨ad, e1, _, hc⟩ := h.rd.2 (by omega)
  injection e1 with e1
  subst e1
  have := hc j u hu
  rwa [add_zero] at this
def LvO (w : World) (l : List Od) (iv : Value) (wr : World) : Prop := ∃ i : Nat, i ≤ l.length ∧ iv = .int .i64 i ∧ Own wr 3 1 (.slice (some ⟨w.heap.size, 0, none⟩) l.length l.length) l.length (is_ (lvA clashB l i 0)) ∧ Fr No w wr
def LvI (w : World) (l : List Od) (k : Nat) (iv : Value) (wr : World) : Prop := ∃ j : Nat, j ≤ k ∧ iv = .int .i64 j ∧ Own wr 3 1 (.slice (some ⟨w.heap.size, 0, none⟩) l.length l.length) l.length (is_ (lvA clashB l k (topN clashB l k j : Nat))) ∧ Fr No w wr
def LvRet (w : World) (l : List Od) (e : Ending) (w' : World) : Prop := e = .returned (.slice (some ⟨w.heap.size, 0, none⟩) l.length l.length) ∧ Own w' 3 1 (.slice (some ⟨w.heap.size, 0, none⟩) l.length l.length) l.length (is_ ((levN clashB l).map fun n : Nat => (n : Int))) ∧ Fr No w w'
theorem is_set (l : List Int) (i : Nat) (u : Int) : is_ (l.set i u) = (is_ l).set i (.int .i64 u) := by unfold is_; rw [List.map_set]
theorem is_at (l : List Int) (i : Nat) {u : Int} (h : l[i]? = some u) : (is_ l)[i]? = some (.int .i64 u) := by unfold is_; rw [List.getElem?_map, h]; rfl
set_option maxRecDepth 100000 in
set_option maxHeartbeats 1000000 in
theorem levels_any (w : World) (F : Nat → Prop) (A : Option Addr) (c : Nat) (l : List Od) (hl : Ls w F A c l) :
    Calls Tryz.prog 37 #[.slice A l.length c] w (LvRet w l) := by
  have hn := hl.n
  have hmk := fun W => run_make1 (P := Tryz.prog) elInt zeroInt rfl .i64 .i64 l.length (by omega) (by simp only [maxLen]; omega) W
  have HL := Lib.hid hl
  have HO0 : Hid (Own (w.alloc (.cells (zrow l.length (.int .i64 0)).toArray 3)) 3 1 (.slice (some ⟨w.heap.size, 0, none⟩) l.length l.length) l.length (is_ (lvA clashB l 0 0))) := by
    refine ⟨by rw [is_length, lvA_length]; omega, .inr ⟨w.heap.size, l.length, _, rfl, heap_alloc_new w _, Nat.le_refl _, by simp only [maxLen]; omega, by simp [zrow_length], ?_⟩⟩
    rw [lvA_zero, List.take_of_length_le (by simp [zrow_length])]
    unfold zrow is_
    rw [List.map_replicate]
  have HCL : Hid (∀ W k j (hk : k < l.length) (hj : j < l.length) v u, Fr No w W → LgS w (Lt w.heap.size) v l[j].legs → LgS w (Lt w.heap.size) u l[k].legs → Calls Tryz.prog 26 #[l[j].val v, l[k].val u] W fun e w' => e = .returned (.bool (clashB l[j] l[k])) ∧ Fr No W w') := fun W k j hk hj v u hW hv hu => clash_any _ _ _ _ v u W (hv.no hW) (hu.no hW) (HL.out.s _ (List.getElem_mem hj)) (HL.out.s _ (List.getElem_mem hk))
  clear hl
  go_enter Tryz.func37, Tryz.ntmps37
  go_wp2
  go_loopw [11] (fun iv wr => LvO w l iv wr) (fun iv _ => l.length - (intOf iv).toNat)
  case atStart => exact ⟨0, Nat.zero_le _, rfl, HO0.out, (Fr.refl _ _).alloc _⟩
  case round =>
    obtain ⟨k, hk, rfl, hown, hfr⟩ := hrel
    have hk62 : (k : Int) ≤ 1000000 := by omega
    by_cases hlt : k < l.length
    · have HFO := Lib.hid hfr
      have HOO := Lib.hid hown
      clear hfr hown
      generalize wr = wo at *
      go_wp2
      go_loopw [15] (fun kv wr => LvI w l k kv wr) (fun kv _ => k - (intOf kv).toNat)
      case atStart => exact ⟨0, Nat.zero_le _, rfl, by rw [topN_zero]; exact HOO.out, HFO.out⟩
      case round =>
        obtain ⟨j, hj, rfl, hown, hfr⟩ := hrel
        have hj62 : (j : Int) ≤ 1000000 := by omega
        by_cases hjk : j < k
        · have hjl : j < l.length := by omega
          obtain ⟨ad, v, rfl, _, _, _, hLk, q0, q1, q2, q3, q4, q5, q6, q7, q8, q9⟩ := (HL.out.ods.fr hfr (fun _ _ _ h => h)).at_ k hlt
          obtain ⟨ad', u, e, _, _, _, hLj, p0, p1, p2, p3, p4, p5, p6, p7, p8, p9⟩ := (HL.out.ods.fr hfr (fun _ _ _ h => h)).at_ j hjl
          injection e with e
          subst e
          obtain ⟨B, d, rfl, hd1, hd2⟩ := hLk.form
          obtain ⟨B', d', rfl, hd1', hd2'⟩ := hLj.form
          have HC : Hid (∀ W, Fr No w W → _) := fun W hW => HCL.out W k j hlt hjl _ _ hW hLj hLk
          have hlv := levN_at clashB l j hjl
          have hz1 := own_cell1 hown (j := j) hjl (is_at _ _ (lvA_get clashB l k (topN clashB l k j : Nat) j hjl))
          rw [if_pos hjk, hlv, Option.getD_some] at hz1
          have hz2 := own_cell1 hown (j := k) hlt (is_at _ _ (lvA_get clashB l k (topN clashB l k j : Nat) k hlt))
          rw [if_neg (by omega), if_pos rfl] at hz2
          have HTS : Hid (topN clashB l k (j + 1) = max (topN clashB l k j) (if clashB l[j] l[k] then topN clashB l j j + 1 else 0)) := by
            have := topN_succ clashB l k j hlt hjl
            rw [hlv, Option.getD_some] at this
            exact this
          have HFR := Lib.hid hfr
          have HOW := Lib.hid hown
          have hst := fun W (hW : Fr No wr W) (u : Value) => (hown.fr hW (fun _ _ h => h)).store k hlt u
          have HST := Lib.hid hst
          have hne : Nonempty (WIn (Fr No wr)) := ⟨⟨_, Fr.refl _ _⟩⟩
          unfold Od.val Od.cs at HC
          simp only [List.toArray] at HC
          clear hfr hown hLk hLj hlv hst
          generalize clashB l[j] l[k] = r at *
          generalize l[k].legs.length = L at *
          generalize l[k].cl = cl at *
          generalize l[k].sq = sq at *
          generalize l[k].kd = kd at *
          generalize l[k].acct = acct at *
          generalize l[k].peer = peer at *
          generalize l[k].sum = sum at *
          generalize l[k].per = per at *
          generalize l[k].hold = hold at *
          generalize l[k].note = note at *
          generalize l[j].legs.length = L' at *
          generalize l[j].cl = cl' at *
          generalize l[j].sq = sq' at *
          generalize l[j].kd = kd' at *
          generalize l[j].acct = acct' at *
          generalize l[j].peer = peer' at *
          generalize l[j].sum = sum' at *
          generalize l[j].per = per' at *
          generalize l[j].hold = hold' at *
          generalize l[j].note = note' at *
          have y1 := fun x : WIn (Fr No wr) => x.h.cell_some hz1 (fun h => h)
          have y2 := fun x : WIn (Fr No wr) => x.h.cell_some hz2 (fun h => h)
          have Q0 := fun x : WIn (Fr No wr) => x.h.cell_some q0 (fun h => h)
          have Q1 := fun x : WIn (Fr No wr) => x.h.cell_some q1 (fun h => h)
          have Q2 := fun x : WIn (Fr No wr) => x.h.cell_some q2 (fun h => h)
          have Q3 := fun x : WIn (Fr No wr) => x.h.cell_some q3 (fun h => h)
          have Q4 := fun x : WIn (Fr No wr) => x.h.cell_some q4 (fun h => h)
          have Q5 := fun x : WIn (Fr No wr) => x.h.cell_some q5 (fun h => h)
          have Q6 := fun x : WIn (Fr No wr) => x.h.cell_some q6 (fun h => h)
          have Q7 := fun x : WIn (Fr No wr) => x.h.cell_some q7 (fun h => h)
          have Q8 := fun x : WIn (Fr No wr) => x.h.cell_some q8 (fun h => h)
          have Q9 := fun x : WIn (Fr No wr) => x.h.cell_some q9 (fun h => h)
          have P0 := fun x : WIn (Fr No wr) => x.h.cell_some p0 (fun h => h)
          have P1 := fun x : WIn (Fr No wr) => x.h.cell_some p1 (fun h => h)
          have P2 := fun x : WIn (Fr No wr) => x.h.cell_some p2 (fun h => h)
          have P3 := fun x : WIn (Fr No wr) => x.h.cell_some p3 (fun h => h)
          have P4 := fun x : WIn (Fr No wr) => x.h.cell_some p4 (fun h => h)
          have P5 := fun x : WIn (Fr No wr) => x.h.cell_some p5 (fun h => h)
          have P6 := fun x : WIn (Fr No wr) => x.h.cell_some p6 (fun h => h)
          have P7 := fun x : WIn (Fr No wr) => x.h.cell_some p7 (fun h => h)
          have P8 := fun x : WIn (Fr No wr) => x.h.cell_some p8 (fun h => h)
          have P9 := fun x : WIn (Fr No wr) => x.h.cell_some p9 (fun h => h)
          clear q0 q1 q2 q3 q4 q5 q6 q7 q8 q9 p0 p1 p2 p3 p4 p5 p6 p7 p8 p9
          have HZ1 := Lib.hid hz1
          clear hz1 hz2
          generalize hti : (topN clashB l k j : Nat) = tn at *
          generalize htj : (topN clashB l j j + 1 : Nat) = tm at *
          have hkl : (k : Int) < (l.length : Int) := by omega
          have hjli : (j : Int) < (l.length : Int) := by omega
          have hjki : (j : Int) < (k : Int) := by omega
          have HRN : Hid (∀ W, Fr No wr W → topN clashB l k (j + 1) = tn → LvI w l k (.int .i64 ((j + 1 : Nat) : Int)) W) := fun W hW e => ⟨j + 1, hjk, rfl, by rw [e]; exact HOW.out.fr hW (fun _ _ h => h), HFR.out.trans hW⟩
          have HJK : Hid (j + 1 ≤ k) := hjk
          by_cases hgt : tn < tm
          · have hgi : (tn : Int) < (tm : Int) := by omega
            have hgd : decide ((tn : Int) < (tm : Int)) = true := decide_eq_true hgi
            have hgn : decide (tn < tm) = true := decide_eq_true hgt
            cases r
            · have HE : Hid (topN clashB l k (j + 1) = tn) := by show _ = _; rw [HTS.out]; simp
              go_upto_region 8 with (fail)
              refine wp_region_in (D := Fr No wr) (by kernel_rfl) (by kernel_rfl) (Fr.refl _ _).drew ?_
              repeat (go_big_quiet_step ((first | (go_at_call 26; refine Calls.in_of (v := .bool false) _ fun W hW => ?_; (with_reducible refine (HC.out W (HFR.out.trans hW)).mono ?_); exact fun _ _ h => ⟨h.1, Fr.trans hW h.2⟩))))
              refine wpQuiet_nil ?_
              rintro wq ⟨⟨w0, hq⟩, hw0⟩
              obtain rfl : wq = w0 := hw0
              go_wp2
              go_roundw
              case rel => exact HRN.out _ hq HE.out
              case measure => have := HJK.out; simp [intOf]; omega
            · have HE : Hid (topN clashB l k (j + 1) = tm) := by show _ = _; rw [HTS.out]; simp; omega
              go_upto_region 8 with (fail)
              refine wp_region_in (D := Fr No wr) (by kernel_rfl) (by kernel_rfl) (Fr.refl _ _).drew ?_
              repeat (go_big_quiet_step ((first | (go_at_call 26; refine Calls.in_of (v := .bool true) _ fun W hW => ?_; (with_reducible refine (HC.out W (HFR.out.trans hW)).mono ?_); exact fun _ _ h => ⟨h.1, Fr.trans hW h.2⟩))))
              refine wpQuiet_nil ?_
              rintro wq ⟨⟨w0, hq⟩, hw0⟩
              obtain rfl : wq = w0 := hw0
              obtain ⟨ho1, ⟨y, hy⟩, hz⟩ := HST.out wq hq (.int .i64 (tm : Int))
              have hz1 := hq.cell_some HZ1.out (fun h => h)
              have HO1 := Lib.hid ho1
              clear ho1 y1 y2 Q0 Q1 Q2 Q3 Q4 Q5 Q6 Q7 Q8 Q9 P0 P1 P2 P3 P4 P5 P6 P7 P8 P9
              go_wp2
              go_roundw
              case rel =>
                refine ⟨j + 1, HJK.out, by go_num, ?_, ?_⟩
                · have := HO1.out
                  rw [← is_set, lvA_set] at this
                  rw [HE.out]
                  exact this
                · refine (HFR.out.trans hq).trans' (fr_set _ _ _ _) fun i hi hlt => ?_
                  have : i = w.heap.size := hi
                  omega
              case measure => have := HJK.out; simp [intOf]; omega
          · have hgi : ¬ (tn : Int) < (tm : Int) := by omega
            have hgd : decide ((tn : Int) < (tm : Int)) = false := decide_eq_false hgi
            have hgn : decide (tn < tm) = false := decide_eq_false hgt
            have HE : Hid (topN clashB l k (j + 1) = tn) := by show _ = _; rw [HTS.out]; cases r <;> simp <;> omega
            go_upto_region 8 with (fail)
            refine wp_region_in (D := Fr No wr) (by kernel_rfl) (by kernel_rfl) (Fr.refl _ _).drew ?_
            repeat (go_big_quiet_step ((fail)))
            refine wpQuiet_nil ?_
            rintro wq ⟨⟨w0, hq⟩, hw0⟩
            obtain rfl : wq = w0 := hw0
            go_wp2
            go_roundw
            case rel => exact HRN.out _ hq HE.out
            case measure => have := HJK.out; simp [intOf]; omega
        · obtain rfl : j = k := by omega
          have hz := own_cell1 hown (j := j) hlt (is_at _ _ (lvA_get clashB l j (topN clashB l j j : Nat) j hlt))
          rw [if_neg (by omega), if_pos rfl] at hz
          have HST := Lib.hid (hown.store j hlt (.int .i64 ((topN clashB l j j : Nat) + 1 : Int)))
          have HFR := Lib.hid hfr
          have hfz := HST.out.2.2
          have htl : (topN clashB l j j : Int) ≤ 1000000 := by
            have := (levN_le clashB l _ (List.mem_of_getElem? (levN_at clashB l j hlt))).2
            omega
          have HNX : Hid (lvA clashB l j ((topN clashB l j j : Nat) + 1 : Int) = lvA clashB l (j + 1) 0) := lvA_next clashB l j hlt
          clear hown hfr
          generalize hti : (topN clashB l j j : Nat) = tn at *
          have hkl : (j : Int) < (l.length : Int) := by omega
          go_wp2
          go_roundw
          case rel =>
            refine ⟨j + 1, hlt, by go_num, ?_, ?_⟩
            · have := HST.out.1
              rw [← is_set, lvA_set, HNX.out] at this
              exact this
            · refine HFR.out.trans' (fr_set _ _ _ _) fun i hi hlt => ?_
              have : i = w.heap.size := hi
              omega
          case measure => simp [intOf]; omega
    · obtain rfl : k = l.length := by omega
      rw [lvA_end] at hown
      go_wp2
      go_ret
      exact ⟨rfl, hown, hfr⟩
end Go.Proofs.YtnphncemghfkbaaGreat

namespace Go.Proofs.YtnphncemghfkbaaGreat
open Go.RowKit Go.My Go.Maps Go.WideMaps
set_option linter.unusedSimpArgs false
set_option linter.unusedVariables false
attribute [local go_sem ↓] Go.wp_at_zero Go.wp_at_succ

def nats (L : List Nat) : List Int := L.map fun n : Nat => (n : Int)
theorem nats_length (L : List Nat) : (nats L).length = L.length := by unfold nats; rw [List.length_map]
theorem maxN_take (L : List Nat) (k : Nat) (hk : k < L.length) : maxN (L.take (k + 1)) = max (maxN (L.take k)) L[k] := by
  rw [List.take_succ_eq_append_getElem hk, maxN_append]
  simp [maxN]
set_option maxRecDepth 100000 in
set_option maxHeartbeats 1000000 in
theorem maxI_any (w : World) (F : Nat → Prop) (A : Option Addr) (c : Nat) (L : List Nat) (hr : Rd w F 1 A L.length (is_ (nats L))) (h0 : 0 < L.length) (hn : L.length ≤ 1000001) (hb : ∀ n ∈ L, n ≤ 1000000) :
    Calls Tryz.prog 38 #[.slice A L.length c] w fun e w' => e = .returned (.int .i64 (maxN L : Nat)) ∧ w' = w := by
  obtain ⟨ad, rfl, _, hc⟩ := hr.2 (by omega)
  have hget : ∀ k (hk : k < L.length), w.cell? (ad.add k) = some (.int .i64 (L[k] : Nat)) := fun k hk => hc k _ (by
    rw [is_get _ k (by rw [nats_length]; exact hk)]
    unfold nats
    rw [List.getElem_map])
  have HG := Lib.hid hget
  have h00 : w.cell? ad = some (.int .i64 (L[0] : Nat)) := by
    have := hget 0 h0
    simpa [Addr.add] using this
  have hM : ∀ k, maxN (L.take k) ≤ 1000000 := fun k => maxN_le fun n h => hb n (List.mem_of_mem_take h)
  have HM := Lib.hid hM
  have HB : Hid (∀ k (hk : k < L.length), L[k] ≤ 1000000) := fun k hk => hb _ (List.getElem_mem hk)
  have h1 : maxN (L.take 1) = L[0] := by
    have := maxN_take L 0 h0
    rw [this]
    simp [maxN]
  have H1 := Lib.hid h1
  have hli : ¬ ((L.length : Int) < 1) := by omega
  have hlp : (0 : Int) < (L.length : Int) := by omega
  clear hr hc hget hb hM h1
  go_enter Tryz.func38, Tryz.ntmps38
  go_wp2
  go_loop [3, 4] (fun mv iv => ∃ k : Nat, 1 ≤ k ∧ k ≤ L.length ∧ iv = .int .i64 k ∧ mv = .int .i64 (maxN (L.take k) : Nat)) (fun _ iv => L.length - (intOf iv).toNat)
  case atStart => exact ⟨1, Nat.le_refl _, h0, rfl, by rw [H1.out]⟩
  case round =>
    obtain ⟨k, hk1, hk, rfl, rfl⟩ := hrel
    have hk62 : (k : Int) ≤ 1000001 := by omega
    by_cases hlt : k < L.length
    · have hz := HG.out k hlt
      have HX : Hid (maxN (L.take (k + 1)) = max (maxN (L.take k)) L[k]) := maxN_take L k hlt
      have hb1 := HM.out k
      have hb2 := HB.out k hlt
      clear h00
      generalize L[k] = x at *
      generalize maxN (L.take k) = m at *
      by_cases hmx : x ≤ m
      · have e1 : (if (m : Int) < (x : Int) then (x : Int) else (m : Int)) = m := if_neg (by omega)
        have e2 : max (m : Int) (x : Int) = m := by omega
        have HXE : Hid (maxN (L.take (k + 1)) = m) := by rw [HX.out]; exact Nat.max_eq_left hmx
        go_wp2
        go_round
        case rel => exact ⟨k + 1, by omega, hlt, by go_num, by rw [HXE.out]⟩
        case measure => simp [intOf]; omega
      · have e1 : (if (m : Int) < (x : Int) then (x : Int) else (m : Int)) = x := if_pos (by omega)
        have e2 : max (m : Int) (x : Int) = x := by omega
        have HXE : Hid (maxN (L.take (k + 1)) = x) := by rw [HX.out]; exact Nat.max_eq_right (by omega)
        go_wp2
        go_round
        case rel => exact ⟨k + 1, by omega, hlt, by go_num, by rw [HXE.out]⟩
        case measure => simp [intOf]; omega
    · obtain rfl : k = L.length := by omega
      rw [List.take_length]
      go_wp2
      go_ret
      exact ⟨rfl, rfl⟩
end Go.Proofs.YtnphncemghfkbaaGreat
