/- What order.Read reads: in lists. -/
import Derived.Test.YtlcbbkookjmnkaaOrd8
import Derived.Test.YtlcbbkookjmnkaaPackSpec
import Derived.Test.YtlcbbkookjmnkaaLgs
namespace Go.Proofs.Ytlcbbkookjmnkaa
open Go.RowKit Go.My Go.Maps
set_option linter.unusedSimpArgs false
set_option linter.unusedVariables false
attribute [local go_sem ↓] Go.wp_at_zero Go.wp_at_succ

def rint (l : List UInt8) (e : Nat) : Int × Nat × List UInt8 := rrange (-9223372036854775808) 9223372036854775807 l e
theorem rint_num (l : List UInt8) (e : Nat) (he : e < 5) : rint l e = rnum l e := by
  unfold rint rrange
  have hb := rnum_bd l e
  by_cases h : (rnum l e).2.1 ≠ 0
  · rw [if_pos h]
    unfold rnum at h ⊢
    by_cases h0 : e ≠ 0
    · simp only [if_pos h0]
    · rw [if_neg h0] at h ⊢
      by_cases h1 : (dec l).2.2 ≠ 0
      · simp only [if_pos h1]
      · rw [if_neg h1] at h
        exact absurd rfl h
  · rw [if_neg h, if_neg (by omega)]
/-- so many legs -/
def rlegs : Nat → List UInt8 → Nat → List Lg × Nat × List UInt8
  | 0, l, e => ([], e, l)
  | k + 1, l, e =>
    let t := rtext 8 l e
    let s := rnum t.2.2 t.2.1
    let r := rlegs k s.2.2 s.2.1
    (⟨⟨t.1.toArray⟩, s.1⟩ :: r.1, r.2)
structure Raw where
  o : Od
  e : Nat
  l : List UInt8
/-- the fields, one behind the other -/
def rawO (l : List UInt8) : Raw :=
  let a := rint l 0
  let b := rint a.2.2 a.2.1
  let c := rint b.2.2 b.2.1
  let d := rtext 8 c.2.2 c.2.1
  let p := rtext 8 d.2.2 d.2.1
  let s := rnum p.2.2 p.2.1
  let n := rrange 0 6 s.2.2 s.2.1
  let g := rlegs n.1.toNat n.2.2 n.2.1
  let x := rint g.2.2 g.2.1
  let h := rint x.2.2 x.2.1
  let t := rtext 20 h.2.2 h.2.1
  ⟨⟨a.1, b.1, c.1, ⟨d.1.toArray⟩, ⟨p.1.toArray⟩, s.1, g.1, x.1, h.1, ⟨t.1.toArray⟩⟩, t.2.1, t.2.2⟩
def readB (l : List UInt8) : Bool := decide (doneE (rawO l).l (rawO l).e = 0) && rightO (rawO l).o
def noO : Od := ⟨0, 0, 0, ⟨#[]⟩, ⟨#[]⟩, 0, [], 0, 0, ⟨#[]⟩⟩
def readO (l : List UInt8) : Od := if readB l = true then (rawO l).o else noO
def readE (l : List UInt8) : Int := if readB l = true then 0 else 3

theorem rtext_err (m : Int) (l : List UInt8) (e : Nat) (he : e < 5) : (rtext m l e).2.1 < 5 := by
  have h := rrange_err 0 m l e he
  unfold rtext
  split
  · exact h
  · split
    · show 4 < 5
      omega
    · show 0 < 5
      omega
theorem rint_err (l : List UInt8) (e : Nat) (he : e < 5) : (rint l e).2.1 < 5 := rrange_err _ _ l e he
theorem rtext_len (m : Int) (l : List UInt8) (e : Nat) : (rtext m l e).1.length ≤ l.length := by
  have hr : (rrange 0 m l e).2.2.length ≤ l.length := by
    have hn : (rnum l e).2.2.length ≤ l.length := by
      unfold rnum
      split
      · exact Nat.le_refl _
      · split
        · simp
        · simp
    unfold rrange
    split
    · exact hn
    · split
      · simp
      · exact hn
  unfold rtext
  split
  · simp
  · split
    · simp
    · simp only [List.length_take]
      omega
theorem rtext_most (m : Int) (hm : 0 ≤ m) (l : List UInt8) (e : Nat) : ((rtext m l e).1.length : Int) ≤ m := by
  unfold rtext
  split
  · simpa using hm
  · rename_i h
    split
    · simpa using hm
    · have h2 := rrange_ok 0 m l e (by omega)
      simp only [List.length_take]
      rw [h2.1]
      have := h2.2
      omega

/-! ### what is written is read -/
theorem rint_enc (x : Int) (rest : List UInt8) (h : In64 x) : rint (nB x ++ rest) 0 = (x, 0, rest) := by
  rw [rint_num _ _ (by omega)]
  exact rnum_enc x rest h
theorem rtxt_enc (m : Int) (s rest : List UInt8) (hm : (s.length : Int) ≤ m) (hl : s.length ≤ 1000000) : rtext m (tB s ++ rest) 0 = (s, 0, rest) := rtext_enc m s rest hm hl
theorem rrng_enc (lo hi x : Int) (rest : List UInt8) (h : In64 x) (h1 : lo ≤ x) (h2 : x ≤ hi) : rrange lo hi (nB x ++ rest) 0 = (x, 0, rest) := by
  have e : rnum (nB x ++ rest) 0 = (x, 0, rest) := rnum_enc x rest h
  unfold rrange
  rw [e]
  simp only [ne_eq, not_true_eq_false, if_false]
  rw [if_neg (by omega)]
theorem mk_toList (s : ByteArray) : (⟨s.data.toList.toArray⟩ : ByteArray) = s := rfl
theorem rlegs_enc : ∀ (L : List Lg) (rest : List UInt8), (∀ g ∈ L, g.nm.length ≤ 8 ∧ In64 g.sum) → rlegs L.length (legsBy L ++ rest) 0 = (L, 0, rest)
  | [], rest, _ => rfl
  | g :: r, rest, h => by
    obtain ⟨h1, h2⟩ := h g List.mem_cons_self
    have ih := rlegs_enc r rest (fun x hx => h x (List.mem_cons_of_mem _ hx))
    have e1 : legsBy (g :: r) ++ rest = tB g.nm ++ (nB g.sum ++ (legsBy r ++ rest)) := by
      show legBy g ++ legsBy r ++ rest = _
      unfold legBy
      simp only [List.append_assoc]
    rw [e1, List.length_cons]
    have e2 : rtext 8 (tB g.nm ++ (nB g.sum ++ (legsBy r ++ rest))) 0 = (g.nm, 0, nB g.sum ++ (legsBy r ++ rest)) := rtxt_enc 8 _ _ (by omega) (by omega)
    have e3 : rnum (nB g.sum ++ (legsBy r ++ rest)) 0 = (g.sum, 0, legsBy r ++ rest) := rnum_enc _ _ h2
    unfold rlegs
    simp only [e2, e3, ih]
    rfl
theorem raw_enc {o : Od} (hs : Short o) (ho : o.ok) (hg : ∀ g ∈ o.legs, In64 g.sum) : rawO (bytesO o) = ⟨o, 0, []⟩ := by
  obtain ⟨i1, i2, i3, i4, i5, i6, i7, i8, i9⟩ := ho
  have hl := hs.legs
  have e : bytesO o = nB o.cl ++ (nB o.sq ++ (nB o.kd ++ (tB o.an ++ (tB o.pn ++ (nB o.sum ++ (nB (o.legs.length : Int) ++ (legsBy o.legs ++ (nB o.per ++ (nB o.hold ++ (tB o.note.data.toList ++ [])))))))))) := by
    unfold bytesO headB tailB
    simp only [flatB_cons, flatB_nil, List.append_assoc, List.append_nil]
  unfold rawO
  rw [e]
  simp only [rint_enc _ _ i1, rint_enc _ _ i2, rint_enc _ _ i3, rtxt_enc 8 o.an _ (by have := hs.acct; omega) (by have := hs.acct; omega), rtxt_enc 8 o.pn _ (by have := hs.peer; omega) (by have := hs.peer; omega)]
  have e6 : ∀ rest, rnum (nB o.sum ++ rest) 0 = (o.sum, 0, rest) := fun rest => rnum_enc _ _ i6
  simp only [e6, rrng_enc 0 6 (o.legs.length : Int) _ (by unfold In64; omega) (by omega) (by omega), Int.toNat_natCast, rlegs_enc o.legs _ (fun g hg' => ⟨hs.each g hg', hg g hg'⟩), rint_enc _ _ i7, rint_enc _ _ i8,
    rtxt_enc 20 o.note.data.toList _ (by have := hs.note; omega) (by have := hs.note; omega)]
  rfl

/-! ### what is read is written so -/
theorem rnum_stick (l : List UInt8) (e : Nat) (h : (rnum l e).2.1 = 0) : e = 0 := by
  unfold rnum at h
  by_cases h0 : e ≠ 0
  · rw [if_pos h0] at h
    exact h
  · omega
theorem rrange_stick (lo hi : Int) (l : List UInt8) (e : Nat) (h : (rrange lo hi l e).2.1 = 0) : e = 0 := by
  have h2 := (rrange_ok lo hi l e h).1
  rw [h2] at h
  exact rnum_stick l e h
theorem rtext_stick (m : Int) (l : List UInt8) (e : Nat) (h : (rtext m l e).2.1 = 0) : (rrange 0 m l e).2.1 = 0 ∧ e = 0 := by
  unfold rtext at h
  by_cases h0 : (rrange 0 m l e).2.1 ≠ 0
  · rw [if_pos h0] at h
    exact absurd h h0
  · have h1 : (rrange 0 m l e).2.1 = 0 := by omega
    exact ⟨h1, rrange_stick 0 m l e h1⟩
theorem rlegs_stick : ∀ (k : Nat) (l : List UInt8) (e : Nat), (rlegs k l e).2.1 = 0 → e = 0
  | 0, _, _, h => h
  | k + 1, l, e, h => by
    unfold rlegs at h
    exact (rtext_stick _ _ _ (rnum_stick _ _ (rlegs_stick k _ _ h))).2
theorem rint_only (l : List UInt8) (h : (rint l 0).2.1 = 0) : l = nB (rint l 0).1 ++ (rint l 0).2.2 := by
  rw [rint_num _ _ (by omega)] at h ⊢
  exact rnum_only l h
theorem rrng_only (lo hi : Int) (l : List UInt8) (h : (rrange lo hi l 0).2.1 = 0) : l = nB (rrange lo hi l 0).1 ++ (rrange lo hi l 0).2.2 ∧ lo ≤ (rrange lo hi l 0).1 ∧ (rrange lo hi l 0).1 ≤ hi := by
  have h2 := rrange_ok lo hi l 0 h
  rw [h2.1] at h ⊢
  exact ⟨rnum_only l h, h2.2⟩
theorem rtxt_only (m : Int) (l : List UInt8) (h : (rtext m l 0).2.1 = 0) : l = tB (rtext m l 0).1 ++ (rtext m l 0).2.2 := by
  have h1 := (rtext_stick m l 0 h).1
  have h2 := rrng_only 0 m l h1
  unfold rtext at h ⊢
  rw [if_neg (by omega)] at h ⊢
  by_cases h3 : ((rrange 0 m l 0).2.2.length : Int) < (rrange 0 m l 0).1
  · rw [if_pos h3] at h
    exact absurd h (by decide)
  · rw [if_neg h3]
    simp only
    unfold tB
    have hlen : ((rrange 0 m l 0).2.2.take (rrange 0 m l 0).1.toNat).length = (rrange 0 m l 0).1.toNat := by
      rw [List.length_take]
      omega
    rw [hlen, Int.toNat_of_nonneg h2.2.1, List.append_assoc, List.take_append_drop]
    exact h2.1
theorem rlegs_only : ∀ (k : Nat) (l : List UInt8), (rlegs k l 0).2.1 = 0 → (rlegs k l 0).1.length = k ∧ l = legsBy (rlegs k l 0).1 ++ (rlegs k l 0).2.2
  | 0, _, _ => ⟨rfl, rfl⟩
  | k + 1, l, h => by
    unfold rlegs at h ⊢
    simp only at h ⊢
    have s3 := rlegs_stick k _ _ h
    rw [s3] at h ⊢
    have s2 := rnum_stick _ _ s3
    rw [s2] at s3 h ⊢
    have e1 := rtxt_only 8 l s2
    have e2 : (rtext 8 l 0).2.2 = nB (rnum (rtext 8 l 0).2.2 0).1 ++ (rnum (rtext 8 l 0).2.2 0).2.2 := rnum_only _ s3
    obtain ⟨i1, i2⟩ := rlegs_only k _ h
    refine ⟨by rw [List.length_cons, i1], ?_⟩
    show l = (legBy _ ++ legsBy _) ++ _
    unfold legBy
    simp only [Lg.nm]
    rw [List.append_assoc, List.append_assoc]
    rw [← i2, ← e2]
    exact e1
theorem raw_only {l : List UInt8} (he : (rawO l).e = 0) : l = bytesO (rawO l).o ++ (rawO l).l ∧ ((rawO l).o.legs.length ≤ 6) := by
  unfold rawO at he ⊢
  simp only at he ⊢
  generalize hA : rint l 0 = a at *
  generalize hB : rint a.2.2 a.2.1 = b at *
  generalize hC : rint b.2.2 b.2.1 = c at *
  generalize hD : rtext 8 c.2.2 c.2.1 = d at *
  generalize hP : rtext 8 d.2.2 d.2.1 = p at *
  generalize hS : rnum p.2.2 p.2.1 = s at *
  generalize hN : rrange 0 6 s.2.2 s.2.1 = n at *
  generalize hG : rlegs n.1.toNat n.2.2 n.2.1 = g at *
  generalize hX : rint g.2.2 g.2.1 = x at *
  generalize hH : rint x.2.2 x.2.1 = h at *
  generalize hT : rtext 20 h.2.2 h.2.1 = t at *
  have sh : h.2.1 = 0 := (rtext_stick 20 _ _ (by rw [hT]; exact he)).2
  have sx : x.2.1 = 0 := rrange_stick _ _ _ _ (by rw [show rrange _ _ _ _ = h from hH]; exact sh)
  have sg : g.2.1 = 0 := rrange_stick _ _ _ _ (by rw [show rrange _ _ _ _ = x from hX]; exact sx)
  have sn : n.2.1 = 0 := rlegs_stick _ _ _ (by rw [hG]; exact sg)
  have ss : s.2.1 = 0 := rrange_stick _ _ _ _ (by rw [hN]; exact sn)
  have sp : p.2.1 = 0 := rnum_stick _ _ (by rw [hS]; exact ss)
  have sd : d.2.1 = 0 := (rtext_stick 8 _ _ (by rw [hP]; exact sp)).2
  have sc : c.2.1 = 0 := (rtext_stick 8 _ _ (by rw [hD]; exact sd)).2
  have sb : b.2.1 = 0 := rrange_stick _ _ _ _ (by rw [show rrange _ _ _ _ = c from hC]; exact sc)
  have sa : a.2.1 = 0 := rrange_stick _ _ _ _ (by rw [show rrange _ _ _ _ = b from hB]; exact sb)
  rw [sa] at hB
  rw [sb] at hC
  rw [sc] at hD
  rw [sd] at hP
  rw [sp] at hS
  rw [ss] at hN
  rw [sn] at hG
  rw [sg] at hX
  rw [sx] at hH
  rw [sh] at hT
  have e1 := rint_only l (by rw [hA]; exact sa)
  have e2 := rint_only a.2.2 (by rw [hB]; exact sb)
  have e3 := rint_only b.2.2 (by rw [hC]; exact sc)
  have e4 := rtxt_only 8 c.2.2 (by rw [hD]; exact sd)
  have e5 := rtxt_only 8 d.2.2 (by rw [hP]; exact sp)
  have e6 : p.2.2 = nB (rnum p.2.2 0).1 ++ (rnum p.2.2 0).2.2 := rnum_only p.2.2 (by rw [hS]; exact ss)
  obtain ⟨e7, r1, r2⟩ := rrng_only 0 6 s.2.2 (by rw [hN]; exact sn)
  obtain ⟨i1, e8⟩ := rlegs_only n.1.toNat n.2.2 (by rw [hG]; exact sg)
  have e9 := rint_only g.2.2 (by rw [hX]; exact sx)
  have e10 := rint_only x.2.2 (by rw [hH]; exact sh)
  have e11 := rtxt_only 20 h.2.2 (by rw [hT]; exact he)
  rw [hA] at e1
  rw [hB] at e2
  rw [hC] at e3
  rw [hD] at e4
  rw [hP] at e5
  rw [hS] at e6
  rw [hN] at e7 r1 r2
  rw [hG] at i1 e8
  rw [hX] at e9
  rw [hH] at e10
  rw [hT] at e11
  refine ⟨?_, by omega⟩
  unfold bytesO headB tailB
  simp only [flatB_cons, flatB_nil, List.append_assoc, List.nil_append, List.append_nil, Od.an, Od.pn]
  rw [i1, Int.toNat_of_nonneg r1, ← e11, ← e10, ← e9, ← e8, ← e7, ← e6, ← e5, ← e4, ← e3, ← e2]
  exact e1
theorem nil_of_done {l : List UInt8} {e : Nat} (h : doneE l e = 0) : e = 0 ∧ l = [] := by
  unfold doneE at h
  split at h
  · rename_i h0
    split at h
    · rename_i h1
      exact ⟨h0, h1⟩
    · cases h
  · rename_i h0
    exact absurd h h0
/-- what is read is written as just these bytes -/
theorem read_bytes {l : List UInt8} (h : readB l = true) : rightO (readO l) = true ∧ bytesO (readO l) = l ∧ readO l = (rawO l).o := by
  have h0 := h
  unfold readB at h
  rw [Bool.and_eq_true, decide_eq_true_eq] at h
  obtain ⟨h1, h2⟩ := nil_of_done h.1
  have e : readO l = (rawO l).o := by unfold readO; rw [if_pos h0]
  have h3 := (raw_only h1).1
  rw [h2, List.append_nil] at h3
  rw [e]
  exact ⟨h.2, h3.symm, rfl⟩
/-- what is written is read -/
theorem bytes_read {o : Od} (hr : rightO o = true) (ho : o.ok) (hg : ∀ g ∈ o.legs, In64 g.sum) : readB (bytesO o) = true ∧ readO (bytesO o) = o := by
  have h := raw_enc (right_short hr) ho hg
  have hb : readB (bytesO o) = true := by
    unfold readB
    rw [h]
    simp only [hr, Bool.and_true, decide_eq_true_eq]
    rfl
  refine ⟨hb, ?_⟩
  unfold readO
  rw [if_pos hb, h]
end Go.Proofs.Ytlcbbkookjmnkaa
