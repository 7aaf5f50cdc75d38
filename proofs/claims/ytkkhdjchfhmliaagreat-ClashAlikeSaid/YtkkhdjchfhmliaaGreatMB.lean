/- A book's accounts and holds, as lists: what is set aside of an account is what its holds have together, whatever names there are. What a book tells of an order, and what it has behind it: in lists. Of no walk. A book in memory. Its small functions: New, isClosed, about. What each kind of order does to a book in memory. What a Hold does to a book in memory. What a book does: a table of what each kind of order does; Do. What a book has: Accts, Holds, Closed, Copy, Same. Orders done one behind the other: book.Fold. -/
import Derived.Test.YtkkhdjchfhmliaaGreatMHB
import Derived.Test.YtkkhdjchfhmliaaGreatMOV
import Derived.Test.YtkkhdjchfhmliaaGreatMCI
import Derived.Deep.RegionHeld3
import Derived.Deep.DrawnRows
import Derived.Laws.EntriesVeiled
import Derived.Deep.QuietTactic
import Derived.BigQuiet
namespace Go.Proofs.YtkkhdjchfhmliaaGreat
open Go.RowKit Go.My Go.Maps
set_option linter.unusedSimpArgs false
set_option linter.unusedVariables false

structure KpB (S : List Ac) (H : List Hd) : Prop where
  inv : Inv S
  snd : ∀ nm a, getA S nm = some a → -a.lim ≤ a.hv - a.st
  set : ∀ nm a, getA S nm = some a → heldOf H nm = a.st
  own : ∀ h ∈ H, (getA S h.acct).isSome = true
theorem KpB.good {S : List Ac} {H : List Hd} (h : KpB S H) : Snd S := fun a ha => h.snd a.name a (getA_mem h.inv.rise ha)
theorem KpB.upd {S : List Ac} {H H' : List Hd} (h : KpB S H) {k : List UInt8} {c c' : Ac} (hg : getA S k = some c) (hn : c'.name = c.name) (hI : Inv (putA c' S)) (hs : -c'.lim ≤ c'.hv - c'.st) (hH : ∀ nm, heldOf H' nm = heldOf H nm + if nm = k then c'.st - c.st else 0) (hO : ∀ x ∈ H', x ∈ H ∨ x.acct = k) : KpB (putA c' S) H' where
  inv := hI
  snd nm a ha := by
    rw [getA_upd hg hn] at ha
    by_cases e : nm = k
    · rw [if_pos e] at ha
      injection ha with ha
      subst ha
      exact hs
    · rw [if_neg e] at ha
      exact h.snd nm a ha
  set nm a ha := by
    rw [getA_upd hg hn] at ha
    rw [hH]
    by_cases e : nm = k
    · rw [if_pos e] at ha ⊢
      injection ha with ha
      subst ha
      have := h.set k c hg
      rw [e]
      omega
    · rw [if_neg e] at ha ⊢
      have := h.set nm a ha
      omega
  own x hx := by
    rw [getA_upd hg hn]
    by_cases e : x.acct = k
    · rw [if_pos e]; rfl
    · rw [if_neg e]
      rcases hO x hx with h1 | h1
      · exact h.own x h1
      · exact absurd h1 e
theorem KpB.give {S : List Ac} {H : List Hd} (h : KpB S H) (nm : List UInt8) (x : Int) : KpB (actS (fun a => giveE a x) (fun a => giveA a x) S nm) H := by
  have hI := inv_give h.inv nm x
  unfold actS at hI ⊢
  cases hg : getA S nm with
  | none => exact h
  | some a =>
    rw [hg] at hI
    simp only at hI ⊢
    by_cases h0 : giveE a x = 0
    · rw [if_pos h0] at hI ⊢
      have e : giveA a x = { a with hv := a.hv - x } := by unfold giveA; rw [if_pos h0]
      rw [e] at hI ⊢
      refine h.upd hg rfl hI ?_ (fun k => by simp) (fun y hy => .inl hy)
      have h1 := h.snd nm a hg
      unfold giveE at h0
      split at h0
      · split at h0
        · cases h0
        · rename_i h2
          unfold freeB at h2
          simp only [decide_eq_false_iff_not, not_and, Classical.not_not] at h2
          simp only
          by_cases hx : 0 < x
          · have := h2 hx; omega
          · omega
      · cases h0
    · rw [if_neg h0]
      exact h
theorem KpB.leg {S : List Ac} {H : List Hd} (h : KpB S H) (g : Lg) : KpB (legS S g) H := by
  unfold legS
  split
  · exact h.give _ _
  · exact h
theorem KpB.legs {S : List Ac} {H : List Hd} (h : KpB S H) (L : List Lg) : KpB (legsS S L) H := by
  induction L generalizing S with
  | nil => exact h
  | cons g r ih =>
    unfold legsS
    split
    · exact ih (h.leg g)
    · exact h
theorem KpB.make {S : List Ac} {H : List Hd} (h : KpB S H) (L : List Lg) : KpB (makeS S L) H := by
  unfold makeS
  split
  · exact h.legs L
  · exact h
theorem KpB.aside {S : List Ac} {H H' : List Hd} (h : KpB S H) {nm : List UInt8} {x : Int} (h0 : asdE S nm x = 0) (hH : ∀ k, heldOf H' k = heldOf H k + if k = nm then x else 0) (hO : ∀ y ∈ H', y ∈ H ∨ y.acct = nm) : KpB (asdS S nm x) H' := by
  have hI := inv_aside h.inv nm x
  unfold asdE actE at h0
  unfold asdS actS at hI ⊢
  cases hg : getA S nm with
  | none => rw [hg] at h0; cases h0
  | some a =>
    rw [hg] at hI h0
    simp only at hI h0 ⊢
    rw [if_pos h0] at hI ⊢
    have e : asideA a x = { a with st := a.st + x } := by unfold asideA; rw [if_pos h0]
    rw [e] at hI ⊢
    refine h.upd hg rfl hI ?_ (fun k => by rw [hH k]; simp only; split <;> omega) hO
    have h1 := h.snd nm a hg
    unfold asideE at h0
    split at h0
    · split at h0
      · cases h0
      · rename_i h2
        unfold freeB at h2
        simp only [decide_eq_false_iff_not, not_and, Classical.not_not] at h2
        simp only
        by_cases hx : 0 < x
        · have := h2 hx; omega
        · omega
    · cases h0
theorem heldOf_none {S : List Ac} {H : List Hd} (h : KpB S H) {nm : List UInt8} (hg : getA S nm = none) : heldOf H nm = 0 := by
  have : ofH H nm = [] := by
    unfold ofH
    rw [List.filter_eq_nil_iff]
    intro x hx he
    have h1 := h.own x hx
    have h2 : x.acct = nm := by simpa using he
    rw [h2, hg] at h1
    cases h1
  unfold heldOf
  rw [this]
  rfl
theorem KpB.open {S : List Ac} {H : List Hd} (h : KpB S H) (nm : List UInt8) (lim : Int) (hl : In64 lim) : KpB (openS S nm lim) H := by
  have hI := inv_open h.inv nm lim hl
  unfold openS at hI ⊢
  by_cases h0 : openE S nm lim = 0
  · rw [if_pos h0] at hI ⊢
    have h1 : getA S nm = none ∧ 0 ≤ lim := by
      unfold openE at h0
      split at h0
      · cases h0
      · rename_i h1
        split at h0
        · cases h0
        · rename_i h2
          exact ⟨by simpa using h2, by omega⟩
    have hget : ∀ k, getA (putA ⟨nm, 0, 0, lim⟩ S) k = if k = nm then some ⟨nm, 0, 0, lim⟩ else getA S k := fun k => by
      by_cases e : k = nm
      · rw [if_pos e, e]
        exact getA_put_same S ⟨nm, 0, 0, lim⟩
      · rw [if_neg e]
        exact getA_put_other S ⟨nm, 0, 0, lim⟩ k (fun e2 => e e2)
    refine ⟨hI, fun k a ha => ?_, fun k a ha => ?_, fun x hx => ?_⟩
    · rw [hget] at ha
      by_cases e : k = nm
      · rw [if_pos e] at ha
        injection ha with ha
        subst ha
        simp only
        omega
      · rw [if_neg e] at ha
        exact h.snd k a ha
    · rw [hget] at ha
      by_cases e : k = nm
      · rw [if_pos e] at ha
        injection ha with ha
        subst ha
        rw [e]
        exact heldOf_none h h1.1
      · rw [if_neg e] at ha
        exact h.set k a ha
    · rw [hget]
      by_cases e : x.acct = nm
      · rw [if_pos e]; rfl
      · rw [if_neg e]; exact h.own x hx
  · rw [if_neg h0]
    exact h
/-- a book's accounts and holds -/
structure StB (S : List Ac) (H : List Hd) : Prop where
  kp : KpB S H
  pos : PosH H
  rise : RiseH H
  few : ∀ nm, (ofH H nm).length ≤ 8
theorem StB.none : StB [] [] :=
  { kp := { inv := inv0, snd := (fun nm a h => by cases h), set := (fun nm a h => by cases h), own := (fun h hh => by cases hh) }
    pos := (fun h hh => by cases hh)
    rise := List.Pairwise.nil
    few := (fun nm => by simp [ofH]) }
theorem StB.del {S S' : List Ac} {H : List Hd} {a : List UInt8} {n : Int} (h : StB S H) (hk : KpB S' (delH H a n)) : StB S' (delH H a n) :=
  ⟨hk, fun y hy => h.pos y (List.mem_filter.1 hy).1, rise_filter h.rise _, fun nm => Nat.le_trans (of_len_del H _ _ nm) (h.few nm)⟩
theorem StB.put {S : List Ac} {H : List Hd} (h : StB S H) (n x : Int) (a : List UInt8) (hx : x ≤ 9223372036854775807) (ha : a.length ≤ 8) : StB (putSS S H n a x) (putHH S H n a x) := by
  by_cases h0 : putE S H n a x = 0
  · obtain ⟨h1, h2, h3, h4, h5, h6⟩ := put_zero h0
    unfold putSS putHH
    rw [if_pos h0, if_pos h0]
    refine ⟨h.kp.aside h6 (fun k => held_ins ⟨n, a, x⟩ H k) (fun y hy => ?_), fun y hy => ?_, rise_insH _ _ h.rise h4, fun nm => ?_⟩
    · rcases (mem_insH _ _ _).1 hy with rfl | hy
      · exact .inr rfl
      · exact .inl hy
    · rcases (mem_insH _ _ _).1 hy with rfl | hy
      · exact ⟨h1, h2, h3, hx, ha⟩
      · exact h.pos y hy
    · have := of_len_ins ⟨n, a, x⟩ H nm
      simp only at this
      by_cases e : nm = a
      · subst e
        rw [if_pos rfl] at this
        omega
      · rw [if_neg e] at this
        have := h.few nm
        omega
  · unfold putSS putHH
    rw [if_neg h0, if_neg h0]
    exact h
theorem StB.free {S : List Ac} {H : List Hd} (h : StB S H) (a : List UInt8) (n : Int) : StB (freeSS S H a n) (freeHH S H a n) ∧ (freeE S H a n ≠ 0 → freeSS S H a n = S) := by
  unfold freeHH freeSS freeE
  cases hg : getH H a n with
  | none => exact ⟨h, fun _ => rfl⟩
  | some y =>
    simp only
    by_cases h0 : asdE S a (-y.sum) = 0
    · rw [if_pos h0]
      exact ⟨h.del (h.kp.aside h0 (fun k => held_del h.rise hg k) (fun z hz => .inl (List.mem_filter.1 hz).1)), fun e => absurd h0 e⟩
    · rw [if_neg h0]
      have e : asdS S a (-y.sum) = S := act_err h0
      rw [e]
      exact ⟨h, fun _ => rfl⟩
theorem StB.take {S : List Ac} {H : List Hd} (h : StB S H) (a b : ByteArray) (n x : Int) : StB (takeSS S H a n b x) (takeHH S H a n b x) := by
  by_cases h0 : takeE S H a n b x = 0
  · unfold takeSS takeHH
    rw [if_pos h0, if_pos h0]
    unfold takeE at h0
    cases hg : getH H a.data.toList n with
    | none => rw [hg] at h0; cases h0
    | some y =>
      rw [hg] at h0
      simp only at h0
      split at h0
      · cases h0
      · split at h0
        · rename_i h1
          exact h.del ((h.kp.aside h1 (fun k => held_del h.rise hg k) (fun z hz => .inl (List.mem_filter.1 hz).1)).make _)
        · rename_i h1
          exact absurd h0 h1
  · unfold takeSS takeHH
    rw [if_neg h0, if_neg h0]
    exact h
theorem StB.post {S : List Ac} {H : List Hd} (h : StB S H) (L : List Lg) : StB (makeS S L) H := ⟨h.kp.make L, h.pos, h.rise, h.few⟩
theorem StB.open {S : List Ac} {H : List Hd} (h : StB S H) (nm : List UInt8) (lim : Int) (hl : In64 lim) : StB (openS S nm lim) H := ⟨h.kp.open nm lim hl, h.pos, h.rise, h.few⟩
end Go.Proofs.YtkkhdjchfhmliaaGreat

namespace Go.Proofs.YtkkhdjchfhmliaaGreat
open Go.RowKit Go.My Go.Maps
set_option linter.unusedSimpArgs false
set_option linter.unusedVariables false

/-- a book -/
structure Bk where
  S : List Ac
  H : List Hd
  cl : Int
def bk0 : Bk := ⟨[], [], 0⟩
def errR (e : Int) : Rp := ⟨e, 0, 0, 0⟩
/-- what is told of an account, where e was done -/
def aboutR (S : List Ac) (nm : List UInt8) (e : Int) : Rp := if e = 0 then ⟨(if (getA S nm).isSome then 0 else 6), (getV S nm).hv, (getV S nm).st, 0⟩ else errR e
def numO (o : Od) : Int := wrap64 (1000 * o.cl + o.sq)
def numR (r : Rp) (n : Int) : Rp := if r.err = 0 then { r with num := n } else r
/-- what an order that may be does -/
def effR (b : Bk) (o : Od) : Rp :=
  if o.kd = 1 then aboutR (openS b.S o.an o.sum) o.an (openE b.S o.an o.sum)
  else if o.kd = 2 then (if o.per ≤ b.cl then errR 10 else errR (checkE b.S o.legs))
  else if o.kd = 3 then numR (aboutR (putSS b.S b.H (numO o) o.an o.sum) o.an (putE b.S b.H (numO o) o.an o.sum)) (numO o)
  else if o.kd = 4 then (if o.per ≤ b.cl then errR 10 else aboutR (takeSS b.S b.H o.acct o.hold o.peer o.sum) o.an (takeE b.S b.H o.acct o.hold o.peer o.sum))
  else if o.kd = 5 then aboutR (freeSS b.S b.H o.an o.hold) o.an (freeE b.S b.H o.an o.hold)
  else if o.kd = 6 then (if o.per ≤ b.cl then errR 10 else ⟨0, 0, 0, o.per⟩)
  else aboutR b.S o.an 0
def effB (b : Bk) (o : Od) : Bk :=
  if o.kd = 1 then ⟨openS b.S o.an o.sum, b.H, b.cl⟩
  else if o.kd = 2 then (if o.per ≤ b.cl then b else ⟨makeS b.S o.legs, b.H, b.cl⟩)
  else if o.kd = 3 then ⟨putSS b.S b.H (numO o) o.an o.sum, putHH b.S b.H (numO o) o.an o.sum, b.cl⟩
  else if o.kd = 4 then (if o.per ≤ b.cl then b else ⟨takeSS b.S b.H o.acct o.hold o.peer o.sum, takeHH b.S b.H o.acct o.hold o.peer o.sum, b.cl⟩)
  else if o.kd = 5 then ⟨freeSS b.S b.H o.an o.hold, freeHH b.S b.H o.an o.hold, b.cl⟩
  else if o.kd = 6 then (if o.per ≤ b.cl then b else ⟨b.S, b.H, o.per⟩)
  else b
def doR (b : Bk) (o : Od) : Rp := if rightO o = true then effR b o else errR 1
def doB (b : Bk) (o : Od) : Bk := if rightO o = true then effB b o else b
/-- orders, one behind the other -/
def foldB : Bk → List Od → Bk
  | b, [] => b
  | b, o :: r => foldB (doB b o) r
def foldR : Bk → List Od → List Rp
  | _, [] => []
  | b, o :: r => doR b o :: foldR (doB b o) r
theorem foldB_append (b : Bk) (l m : List Od) : foldB b (l ++ m) = foldB (foldB b l) m := by
  induction l generalizing b with
  | nil => rfl
  | cons o r ih => exact ih _
theorem foldR_append (b : Bk) (l m : List Od) : foldR b (l ++ m) = foldR b l ++ foldR (foldB b l) m := by
  induction l generalizing b with
  | nil => rfl
  | cons o r ih =>
    show doR b o :: foldR (doB b o) (r ++ m) = _
    rw [ih]
    rfl
theorem foldR_length (b : Bk) (l : List Od) : (foldR b l).length = l.length := by
  induction l generalizing b with
  | nil => rfl
  | cons o r ih => show (foldR (doB b o) r).length + 1 = _; rw [ih]; rfl

/-- what holds of a book -/
structure BkI (b : Bk) : Prop where
  st : StB b.S b.H
  cl : 0 ≤ b.cl ∧ b.cl ≤ 1000
theorem bki0 : BkI bk0 := ⟨StB.none, by unfold bk0; exact ⟨Int.le_refl 0, by decide⟩⟩
theorem filter_or (p q : Hd → Bool) : ∀ l : List Hd, (l.filter fun x => p x || q x).length ≤ (l.filter p).length + (l.filter q).length
  | [] => by simp
  | x :: r => by
    have ih := filter_or p q r
    rw [List.filter_cons, List.filter_cons, List.filter_cons]
    cases p x <;> cases q x <;> simp <;> omega
theorem few_all {H : List Hd} (hf : ∀ nm, (ofH H nm).length ≤ 8) : ∀ S : List Ac, (H.filter fun x => S.any fun a => a.name == x.acct).length ≤ 8 * S.length
  | [] => by simp
  | a :: r => by
    have ih := few_all hf r
    have h1 := filter_or (fun x => a.name == x.acct) (fun x => r.any fun a => a.name == x.acct) H
    have h2 := hf a.name
    have h3 : (H.filter fun x => a.name == x.acct) = ofH H a.name := by
      unfold ofH
      apply List.filter_congr
      intro x _
      exact BEq.comm
    rw [h3] at h1
    have h4 : (H.filter fun x => (a :: r).any fun a => a.name == x.acct) = H.filter fun x => (a.name == x.acct) || (r.any fun a => a.name == x.acct) := by simp only [List.any_cons]
    rw [h4, List.length_cons]
    omega
/-- few holds -/
theorem StB.len {S : List Ac} {H : List Hd} (h : StB S H) : H.length ≤ 96 := by
  have h1 := few_all h.few S
  have h2 : (H.filter fun x => S.any fun a => a.name == x.acct) = H := by
    rw [List.filter_eq_self]
    intro x hx
    have h3 := h.kp.own x hx
    cases hg : getA S x.acct with
    | none => rw [hg] at h3; cases h3
    | some a =>
      rw [List.any_eq_true]
      exact ⟨a, (getA_some hg).1, by simpa using (getA_some hg).2⟩
  rw [h2] at h1
  have := h.kp.inv.len
  omega
/-- what an order that may be is like -/
theorem right_kd {o : Od} (h : rightO o = true) : (1 ≤ o.kd ∧ o.kd ≤ 7) ∧ (0 ≤ o.cl ∧ o.cl ≤ 9 ∧ 1 ≤ o.sq ∧ o.sq ≤ 999) ∧ (o.kd = 2 ∨ o.kd = 6 ∨ nameB o.an = true) ∧ (o.kd = 2 ∨ o.kd = 4 ∨ o.kd = 6 → 1 ≤ o.per ∧ o.per ≤ 1000) := by
  unfold rightO idB at h
  simp only [Bool.and_eq_true, decide_eq_true_eq] at h
  obtain ⟨h1, h2, ⟨h3, h4, h5, h6⟩, ha, hp, hs, hl, hper, hh, hn⟩ := h
  refine ⟨⟨h1, h2⟩, ⟨h3, h4, h5, h6⟩, ?_, fun hk => ?_⟩
  · unfold acctB at ha
    split at ha
    · rename_i h; rcases h with h | h
      · exact .inl h
      · exact .inr (.inl h)
    · exact .inr (.inr ha)
  · unfold perB at hper
    rw [if_pos hk] at hper
    simpa using hper
theorem name_len {l : List UInt8} (h : nameB l = true) : l.length ≤ 8 := by
  unfold nameB at h
  simp only [Bool.and_eq_true, decide_eq_true_eq] at h
  exact h.2.2
theorem numO_eq {o : Od} (h : 0 ≤ o.cl ∧ o.cl ≤ 9 ∧ 1 ≤ o.sq ∧ o.sq ≤ 999) : numO o = 1000 * o.cl + o.sq := by
  unfold numO
  rw [IntWalk.wrap64_in _ ⟨by omega, by omega⟩]
theorem do_inv {b : Bk} (h : BkI b) {o : Od} (ho : o.ok) : BkI (doB b o) := by
  unfold doB
  by_cases hr : rightO o = true
  · rw [if_pos hr]
    obtain ⟨hk, hid, hnm, hper⟩ := right_kd hr
    have hsum : In64 o.sum := ho.2.2.2.2.2.1
    unfold effB
    by_cases k1 : o.kd = 1
    · rw [if_pos k1]; exact ⟨h.st.open _ _ hsum, h.cl⟩
    rw [if_neg k1]
    by_cases k2 : o.kd = 2
    · rw [if_pos k2]; split
      · exact h
      · exact ⟨h.st.post _, h.cl⟩
    rw [if_neg k2]
    by_cases k3 : o.kd = 3
    · rw [if_pos k3]
      refine ⟨h.st.put _ _ _ hsum.2 ?_, h.cl⟩
      rcases hnm with h1 | h1 | h1
      · omega
      · omega
      · exact name_len h1
    rw [if_neg k3]
    by_cases k4 : o.kd = 4
    · rw [if_pos k4]; split
      · exact h
      · exact ⟨h.st.take _ _ _ _, h.cl⟩
    rw [if_neg k4]
    by_cases k5 : o.kd = 5
    · rw [if_pos k5]; exact ⟨(h.st.free _ _).1, h.cl⟩
    rw [if_neg k5]
    by_cases k6 : o.kd = 6
    · rw [if_pos k6]; split
      · exact h
      · have := hper (.inr (.inr k6))
        exact ⟨h.st, by simp only; omega⟩
    rw [if_neg k6]
    exact h
  · rw [if_neg hr]; exact h
theorem fold_inv {b : Bk} (h : BkI b) : ∀ l : List Od, (∀ o ∈ l, o.ok) → BkI (foldB b l)
  | [], _ => h
  | o :: r, hl => fold_inv (do_inv h (hl o List.mem_cons_self)) r fun x hx => hl x (List.mem_cons_of_mem _ hx)
end Go.Proofs.YtkkhdjchfhmliaaGreat

namespace Go.Proofs.YtkkhdjchfhmliaaGreat
open Go.RowKit Go.My Go.Maps
set_option linter.unusedSimpArgs false
set_option linter.unusedVariables false
attribute [local go_sem ↓] Go.wp_at_zero Go.wp_at_succ

/-- where a book lies: itself, its chart and the chart's map, its holds and their map -/
structure Pl where
  p : Nat
  c : Nat
  m : Nat
  h : Nat
  k : Nat
def Pl.all (q : Pl) : Nat → Prop := fun i => i = q.p ∨ i = q.c ∨ i = q.m ∨ i = q.h ∨ i = q.k
/-- what is written of it -/
def Pl.wr (q : Pl) : Nat → Prop := fun i => i = q.p ∨ i = q.m ∨ i = q.k
theorem Pl.wr_all {q : Pl} {i : Nat} (h : q.wr i) : q.all i := by
  rcases h with h | h | h
  · exact .inl h
  · exact .inr (.inr (.inl h))
  · exact .inr (.inr (.inr (.inr h)))
structure BkS (w : World) (q : Pl) (b : Bk) : Prop where
  blk : Blk w q.p 64 #[.pointer (some ⟨q.c, 0, none⟩), .pointer (some ⟨q.h, 0, none⟩), .int .i64 b.cl]
  ch : ChS w q.c q.m b.S
  hd : HdS w q.h q.k b.H
  ne : q.k ≠ q.m
  inv : BkI b
section
variable {w w' : World} {q : Pl} {b : Bk}
theorem BkS.fr {F : Nat → Prop} (h : BkS w q b) (hf : Fr F w w') (hn : ∀ i, q.all i → ¬ F i) : BkS w' q b :=
  ⟨h.blk.fr hf (hn _ (.inl rfl)), h.ch.fr hf (hn _ (.inr (.inl rfl))) (hn _ (.inr (.inr (.inl rfl)))), h.hd.fr hf (hn _ (.inr (.inr (.inr (.inl rfl))))) (hn _ (.inr (.inr (.inr (.inr rfl))))), h.ne, h.inv⟩
theorem BkS.no (h : BkS w q b) (hf : Fr No w w') : BkS w' q b := h.fr hf (fun _ _ h => h)
theorem BkS.lt (h : BkS w q b) : ∀ i, q.all i → i < w.heap.size := fun i hi => by
  rcases hi with rfl | rfl | rfl | rfl | rfl
  · exact h.blk.lt
  · exact h.ch.1.lt
  · exact h.ch.2.lt
  · exact h.hd.1.lt
  · exact h.hd.2.lt
theorem BkS.mp (h : BkS w q b) : q.m ≠ q.p ∧ q.k ≠ q.p := ⟨h.ch.2.ne_ h.blk, h.hd.2.ne_ h.blk⟩
/-- what has changed is the chart -/
theorem BkS.chart (h : BkS w q b) {S : List Ac} (hc : ChS w' q.c q.m S) (hf : Fr (At1 q.m) w w') (hi : BkI ⟨S, b.H, b.cl⟩) : BkS w' q ⟨S, b.H, b.cl⟩ :=
  ⟨h.blk.fr hf (fun e => h.mp.1 (show q.p = q.m from e).symm), hc, h.hd.at1 h.ch h.ne hf, h.ne, hi⟩
theorem BkS.chart_same (h : BkS w q b) (hc : ChS w' q.c q.m b.S) (hf : Fr (At1 q.m) w w') : BkS w' q b := h.chart hc hf h.inv
/-- the chart and the holds -/
theorem BkS.both (h : BkS w q b) {n : Int} {S : List Ac} {H : List Hd} {e : Ending} (hr : HRet q.c q.m q.h q.k n S H w e w') (hi : BkI ⟨S, H, b.cl⟩) : BkS w' q ⟨S, H, b.cl⟩ :=
  ⟨h.blk.fr hr.fr (fun e => by rcases e with e | e; exact h.mp.1 e.symm; exact h.mp.2 e.symm), hr.ch, hr.hd, h.ne, hi⟩
theorem Pl.wr_m {q : Pl} (hf : Fr (At1 q.m) w w') : Fr q.wr w w' := hf.mono fun _ _ h => .inr (.inl h)
theorem Pl.wr_mk {q : Pl} (hf : Fr (At2 q.m q.k) w w') : Fr q.wr w w' := hf.mono fun _ _ h => by
  rcases h with h | h
  · exact .inr (.inl h)
  · exact .inr (.inr h)
end
/-- a reply that is stored -/
theorem fr_set4 (w : World) (g : Nat) (a b c d : Value) : Fr (At1 g) w ((((w.setCell ⟨g, 0, none⟩ a).setCell ⟨g, 1, none⟩ b).setCell ⟨g, 2, none⟩ c).setCell ⟨g, 3, none⟩ d) :=
  Fr.setCell (S := At1 g) (p := ⟨g, 3, none⟩) (Fr.setCell (S := At1 g) (p := ⟨g, 2, none⟩) (Fr.setCell (S := At1 g) (p := ⟨g, 1, none⟩) (Fr.setCell (S := At1 g) (p := ⟨g, 0, none⟩) (Fr.refl _ _) (fun _ => rfl) _) (fun _ => rfl) _) (fun _ => rfl) _) (fun _ => rfl) _

set_option maxRecDepth 100000 in
set_option maxHeartbeats 1000000 in
theorem isClosed_any (q : Pl) (b : Bk) (n : Int) (w : World) (h : BkS w q b) : Calls Tryz.prog 87 #[.pointer (some ⟨q.p, 0, none⟩), .int .i64 n] w fun e w' => e = .returned (.bool (decide (n ≤ b.cl))) ∧ w = w' := by
  have x2 : w.cell? ⟨q.p, 2, none⟩ = some (.int .i64 b.cl) := h.blk.cell 2
  clear h
  go_enter Tryz.func87, Tryz.ntmps87
  go_wp2
  go_ret
  exact ⟨rfl, rfl⟩

set_option maxRecDepth 100000 in
set_option maxHeartbeats 1000000 in
theorem about_any (q : Pl) (b : Bk) (s : ByteArray) (e0 : Int) (w : World) (h : BkS w q b) (hs : s.size ≤ maxLen) :
    Calls Tryz.prog 85 #[.pointer (some ⟨q.p, 0, none⟩), .string s, .int .i64 e0] w fun e w' => e = .returned (aboutR b.S s.data.toList e0).val ∧ BkS w' q b ∧ Fr (At1 q.m) w w' := by
  have HH := Lib.hid h
  by_cases h0 : e0 = 0
  · subst h0
    have HG : Hid (∀ W, Fr No w W → Calls Tryz.prog 104 #[.pointer (some ⟨q.c, 0, none⟩), .string s] W (GotC q.c q.m b.S s.data.toList W)) := fun W hW => get_any q.c q.m b.S s W (h.ch.no hW) hs h.inv.st.kp.inv.len
    have x0 : ∀ o, (w.alloc o).cell? ⟨q.p, 0, none⟩ = some (.pointer (some ⟨q.c, 0, none⟩)) := fun o => (h.blk.alloc o).cell 0
    have hml := h.ch.2.lt
    clear h hs
    go_enter Tryz.func85, Tryz.ntmps85
    go_wp2_with fail
    refine (HG.out _ ((Fr.refl _ _).alloc _)).mono ?_
    rintro e w2 ⟨rfl, hc2, hf2⟩
    have hb := (Blk.new w 42 #[.int .i64 0, .int .i64 0, .int .i64 0, .int .i64 0]).fr hf2 (fun e => by have : w.heap.size = q.m := e; omega)
    have HF2 : Hid (Fr (At1 q.m) w w2) := (((Fr.refl No w).alloc _).mono (T := At1 q.m) fun _ _ h => False.elim h).trans hf2
    have HB2 := Lib.hid (HH.out.chart_same hc2 HF2.out)
    have c0 := hb.cell 0
    have c1 := hb.cell 1
    have c2 := hb.cell 2
    have c3 := hb.cell 3
    have f0 := hb.frozen 0
    have f1 := hb.frozen 1
    have f2 := hb.frozen 2
    have f3 := hb.frozen 3
    simp only [List.getElem?_toArray, List.getElem?_cons_zero, List.getElem?_cons_succ] at c0 c1 c2 c3
    have HR : Hid (aboutR b.S s.data.toList 0 = ⟨(if (getA b.S s.data.toList).isSome then 0 else 6), (getV b.S s.data.toList).hv, (getV b.S s.data.toList).st, 0⟩) := rfl
    have hrl := hb.lt
    generalize getV b.S s.data.toList = V at *
    generalize (if (getA b.S s.data.toList).isSome then (0 : Int) else 6) = n at *
    obtain ⟨vn, vh, vs, vl⟩ := V
    unfold Ac.val
    simp only at HR
    have hy := Blk.new w2 54 #[.string ⟨vn.toArray⟩, .int .i64 vh, .int .i64 vs, .int .i64 vl]
    have y1 := hy.cell 1
    have y2 := hy.cell 2
    simp only [List.getElem?_toArray, List.getElem?_cons_zero, List.getElem?_cons_succ] at y1 y2
    have HB4 := Lib.hid hb
    clear hy hb hf2 hc2 x0 HG
    go_wp2
    have hd : Blk (((((w2.setCell ⟨w.heap.size, 0, none⟩ (.int .i64 n)).setCell ⟨w.heap.size, 1, none⟩ (.int .i64 vh)).setCell ⟨w.heap.size, 2, none⟩ (.int .i64 vs)).setCell ⟨w.heap.size, 3, none⟩ (.int .i64 0)).alloc (.cells #[.string ⟨vn.toArray⟩, .int .i64 vh, .int .i64 vs, .int .i64 vl] 54)) w.heap.size 42 #[.int .i64 n, .int .i64 vh, .int .i64 vs, .int .i64 0] :=
      ((((HB4.out.set_ 0 (.int .i64 n)).set_ 1 (.int .i64 vh)).set_ 2 (.int .i64 vs)).set_ 3 (.int .i64 0)).alloc _
    have HX := (fr_set4 w2 w.heap.size (.int .i64 n) (.int .i64 vh) (.int .i64 vs) (.int .i64 0)).alloc (.cells #[.string ⟨vn.toArray⟩, .int .i64 vh, .int .i64 vs, .int .i64 vl] 54)
    generalize ((((w2.setCell ⟨w.heap.size, 0, none⟩ (.int .i64 n)).setCell ⟨w.heap.size, 1, none⟩ (.int .i64 vh)).setCell ⟨w.heap.size, 2, none⟩ (.int .i64 vs)).setCell ⟨w.heap.size, 3, none⟩ (.int .i64 0)).alloc (.cells #[.string ⟨vn.toArray⟩, .int .i64 vh, .int .i64 vs, .int .i64 vl] 54) = w3 at *
    have d0 := hd.cell 0
    have d1 := hd.cell 1
    have d2 := hd.cell 2
    have d3 := hd.cell 3
    simp only [List.getElem?_toArray, List.getElem?_cons_zero, List.getElem?_cons_succ] at d0 d1 d2 d3
    refine bodyPost_ret (v := .agg #[.int .i64 n, .int .i64 vh, .int .i64 vs, .int .i64 0]) (by simp [results, Tryz.results85, go_sem, d0, d1, d2, d3]) rfl ?_
    refine ⟨by rw [HR.out]; rfl, HB2.out.fr HX (fun i hi e => ?_), HF2.out.trans' HX fun i hi hlt => ?_⟩
    · have := HH.out.lt i hi
      have : i = w.heap.size := e
      omega
    · have : i = w.heap.size := hi
      omega
  · have HR : Hid (aboutR b.S s.data.toList e0 = ⟨e0, 0, 0, 0⟩) := by show _ = _; unfold aboutR; rw [if_neg h0]; rfl
    have hne : (e0 != 0) = true := by rw [bne_iff_ne]; exact h0
    have hb := Blk.new w 42 #[.int .i64 0, .int .i64 0, .int .i64 0, .int .i64 0]
    have c0 := hb.cell 0
    have c1 := hb.cell 1
    have c2 := hb.cell 2
    have c3 := hb.cell 3
    have f0 := hb.frozen 0
    have f1 := hb.frozen 1
    have f2 := hb.frozen 2
    have f3 := hb.frozen 3
    simp only [List.getElem?_toArray, List.getElem?_cons_zero, List.getElem?_cons_succ] at c0 c1 c2 c3
    clear h h0 hb hs
    go_enter Tryz.func85, Tryz.ntmps85
    go_wp2
    refine bodyPost_ret (v := .agg #[.int .i64 e0, .int .i64 0, .int .i64 0, .int .i64 0]) (by simp [results, Tryz.results85, go_sem, c0, c1, c2, c3, f0, f1, f2, f3]) rfl ?_
    exact ⟨by rw [HR.out]; rfl, HH.out.no ((Fr.refl _ _).alloc _), (Fr.refl _ _).alloc _⟩
set_option maxRecDepth 100000 in
set_option maxHeartbeats 1000000 in
theorem newB_any (w : World) : Calls Tryz.prog 18 #[] w fun e w' => ∃ q : Pl, e = .returned (.pointer (some ⟨q.p, 0, none⟩)) ∧ BkS w' q bk0 ∧ Fr No w w' ∧ ∀ i, q.all i → w.heap.size ≤ i := by
  go_enter Tryz.func18, Tryz.ntmps18
  go_wp2_with fail
  refine (new_any _).mono ?_
  rintro e w1 ⟨c, m, rfl, hc1, hf1, hcl, hml⟩
  go_wp2_with fail
  refine (newH_any _).mono ?_
  rintro e w2 ⟨h, k, rfl, hh2, hf2, hhl, hkl⟩
  have hm := hc1.2.lt
  have hc2 := hc1.no hf2
  have hs1 := hf1.size
  have hs2 := hf2.size
  have HB := Lib.hid (Blk.new w2 64 #[.pointer (some ⟨c, 0, none⟩), .pointer (some ⟨h, 0, none⟩), .int .i64 0])
  have HC2 := Lib.hid hc2
  have HH2 := Lib.hid hh2
  have HF := Lib.hid (hf1.trans hf2)
  clear hc1 hf1 hc2 hh2 hf2
  go_wp2
  go_ret
  refine ⟨⟨w2.heap.size, c, m, h, k⟩, rfl, ⟨HB.out, HC2.out.no ((Fr.refl _ _).alloc _), HH2.out.no ((Fr.refl _ _).alloc _), ?_, bki0⟩, HF.out.alloc _, ?_⟩
  · simp only
    omega
  · intro i hi
    rcases hi with e | e | e | e | e <;> simp only at e <;> omega
end Go.Proofs.YtkkhdjchfhmliaaGreat

namespace Go.Proofs.YtkkhdjchfhmliaaGreat
open Go.RowKit Go.My Go.Maps
set_option linter.unusedSimpArgs false
set_option linter.unusedVariables false
attribute [local go_sem ↓] Go.wp_at_zero Go.wp_at_succ

/-- told, and done -/
def DidB (q : Pl) (r : Rp) (b : Bk) (w : World) (e : Ending) (w' : World) : Prop := e = .returned r.val ∧ BkS w' q b ∧ Fr q.wr w w'
theorem eff_inv {b : Bk} (h : BkI b) {o : Od} (ho : o.ok) (hr : rightO o = true) : BkI (effB b o) := by
  have h1 := do_inv h ho
  unfold doB at h1
  rw [if_pos hr] at h1
  exact h1
theorem Pl.far {q : Pl} {w : World} {b : Bk} (h : BkS w q b) {g : Nat} (hg : w.heap.size ≤ g) : ¬ q.wr g := fun e => by
  have := h.lt g (Pl.wr_all e)
  omega
/-- what is written of a book, and one block besides -/
def At3 (m k g : Nat) : Nat → Prop := fun i => i = m ∨ i = k ∨ i = g
theorem blk_set4 {w : World} {g : Nat} {t : TypeId} {x0 x1 x2 x3 : Value} (h : Blk w g t #[x0, x1, x2, x3]) (a b c d : Value) : Blk ((((w.setCell ⟨g, 0, none⟩ a).setCell ⟨g, 1, none⟩ b).setCell ⟨g, 2, none⟩ c).setCell ⟨g, 3, none⟩ d) g t #[a, b, c, d] :=
  (((h.set_ 0 a).set_ 1 b).set_ 2 c).set_ 3 d
theorem did_of {q : Pl} {b b' : Bk} {w w1 u W : World} {g : Nat} (hq : BkS w q b) (hg : w.heap.size ≤ g) (hf : Fr No w w1) (hk : Fr (At2 q.m q.k) w1 u) (hb : BkS u q b') (hx : Fr (At1 g) u W) : BkS W q b' ∧ Fr q.wr w W := by
  have h1 : Fr q.wr w u := (hf.mono (T := q.wr) fun _ _ h => False.elim h).trans (Pl.wr_mk hk)
  refine ⟨hb.fr hx fun i hi e => ?_, h1.trans' hx fun i hi hlt => ?_⟩
  · have := hq.lt i hi
    have : i = g := e
    omega
  · have : i = g := hi
    omega
theorem number_any (a b : Int) (ha : 0 ≤ a ∧ a ≤ 9) (hb : 1 ≤ b ∧ b ≤ 999) (w : World) : Calls Tryz.prog 89 #[.agg #[.int .i64 a, .int .i64 b]] w fun e w' => e = .returned (.int .i64 (1000 * a + b)) ∧ Fr No w w' := by
  obtain ⟨a1, a2⟩ := ha
  obtain ⟨b1, b2⟩ := hb
  go_enter Tryz.func89, Tryz.ntmps89
  go_wp2
  go_ret
  exact ⟨rfl, (Fr.refl _ _).alloc _⟩
set_option maxRecDepth 100000 in
set_option maxHeartbeats 2000000 in
theorem bopen_any (q : Pl) (b : Bk) (o : Od) (v : Value) (w : World) (h : BkS w q b) (ho : o.ok) (hr : rightO o = true) (hk : o.kd = 1) :
    Calls Tryz.prog 50 #[.pointer (some ⟨q.p, 0, none⟩), o.val v] w (DidB q (effR b o) (effB b o) w) := by
  have hI := eff_inv h.inv ho hr
  have eB : effB b o = ⟨openS b.S o.an o.sum, b.H, b.cl⟩ := by unfold effB; rw [if_pos hk]
  have eR : effR b o = aboutR (openS b.S o.an o.sum) o.an (openE b.S o.an o.sum) := by unfold effR; rw [if_pos hk]
  rw [eB] at hI
  rw [eB, eR]
  obtain ⟨-, -, -, hac, hpe, hsm, hpr, hhd, -⟩ := ho
  clear eB eR hr
  obtain ⟨ocl, osq, okd, oac, ope, osm, olg, opr, ohd, ont⟩ := o
  unfold Od.val Od.cs Od.an at *
  simp only at hac hpe hsm hpr hhd hI ⊢
  clear hk
  have HH := Lib.hid h
  have HI := Lib.hid hI
  have HO : Hid (∀ W, Fr No w W → Calls Tryz.prog 86 #[.pointer (some ⟨q.c, 0, none⟩), .string oac, .int .i64 osm] W fun e w' => e = .returned (.int .i64 (openE b.S oac.data.toList osm)) ∧ BkS w' q ⟨openS b.S oac.data.toList osm, b.H, b.cl⟩ ∧ Fr (At2 q.m q.k) W w') := fun W hW =>
    (open_any q.c q.m b.S oac osm W (h.ch.no hW) hac hsm h.inv.st.kp.inv.len).mono fun e w' hx => ⟨hx.1, (h.no hW).chart hx.2.1 hx.2.2 hI, hx.2.2.mono fun _ _ h => .inl h⟩
  generalize openE b.S oac.data.toList osm = E at *
  generalize openS b.S oac.data.toList osm = T at *
  obtain ⟨re, rh, rs, rn, hR⟩ : ∃ a b c d, aboutR T oac.data.toList E = ⟨a, b, c, d⟩ := ⟨_, _, _, _, rfl⟩
  have HAB : Hid (∀ W, BkS W q ⟨T, b.H, b.cl⟩ → Calls Tryz.prog 85 #[.pointer (some ⟨q.p, 0, none⟩), .string oac, .int .i64 E] W fun e w' => e = .returned (.agg #[.int .i64 re, .int .i64 rh, .int .i64 rs, .int .i64 rn]) ∧ BkS w' q ⟨T, b.H, b.cl⟩ ∧ Fr (At2 q.m q.k) W w') := fun W hW => by
    have hx := about_any q ⟨T, b.H, b.cl⟩ oac E W hW hac
    rw [hR] at hx
    exact hx.mono fun e w' h => ⟨h.1, h.2.1, h.2.2.mono fun _ _ h => .inl h⟩
  rw [hR]
  have hfar : ∀ g, w.heap.size ≤ g → ¬ At2 q.m q.k g := fun g hg e => Pl.far h hg (by rcases e with e | e; exact .inr (.inl e); exact .inr (.inr e))
  have hbk := h.blk
  have hbo := Blk.new w 39 #[.int .i64 ocl, .int .i64 osq, .int .i64 okd, .string oac, .string ope, .int .i64 osm, v, .int .i64 opr, .int .i64 ohd, .string ont]
  have hbr := Blk.new (w.alloc (.cells #[.int .i64 ocl, .int .i64 osq, .int .i64 okd, .string oac, .string ope, .int .i64 osm, v, .int .i64 opr, .int .i64 ohd, .string ont] 39)) 42 #[.int .i64 0, .int .i64 0, .int .i64 0, .int .i64 0]
  rw [World.size_alloc] at hbr
  have hbo1 := hbo.alloc (.cells #[.int .i64 0, .int .i64 0, .int .i64 0, .int .i64 0] 42)
  have hf1 : Fr No w ((w.alloc (.cells #[.int .i64 ocl, .int .i64 osq, .int .i64 okd, .string oac, .string ope, .int .i64 osm, v, .int .i64 opr, .int .i64 ohd, .string ont] 39)).alloc (.cells #[.int .i64 0, .int .i64 0, .int .i64 0, .int .i64 0] 42)) := ((Fr.refl _ _).alloc _).alloc _
  have hmp := h.mp
  have hlt : q.p < w.heap.size := h.blk.lt
  clear h hI hR hac hsm hpe hpr hhd hbo
  go_enter Tryz.func50, Tryz.ntmps50
  go_upto_region 1 with (fail)
  generalize ((w.alloc (.cells #[.int .i64 ocl, .int .i64 osq, .int .i64 okd, .string oac, .string ope, .int .i64 osm, v, .int .i64 opr, .int .i64 ohd, .string ont] 39)).alloc (.cells #[.int .i64 0, .int .i64 0, .int .i64 0, .int .i64 0] 42)) = w1 at *
  have HF1 := Lib.hid hf1
  have HBR := Lib.hid hbr
  have HX : Hid (∀ W, Fr (At3 q.m q.k (w.heap.size + 1)) w1 W → Fr (At3 q.m q.k (w.heap.size + 1)) w1 W ∧ W.cell? ⟨q.p, 0, none⟩ = some (.pointer (some ⟨q.c, 0, none⟩)) ∧ W.cell? ⟨q.p, 1, none⟩ = some (.pointer (some ⟨q.h, 0, none⟩)) ∧ W.cell? ⟨w.heap.size, 3, none⟩ = some (.string oac) ∧ W.cell? ⟨w.heap.size, 5, none⟩ = some (.int .i64 osm)) := fun W hW => by
    have h1 := hbo1.fr hW (fun e => by rcases e with e | e | e; exact hfar _ (Nat.le_refl _) (.inl e); exact hfar _ (Nat.le_refl _) (.inr e); omega)
    have h2 := (hbk.fr hf1 (fun h => h)).fr hW (fun e => by rcases e with e | e | e; exact hmp.1 e.symm; exact hmp.2 e.symm; omega)
    exact ⟨hW, h2.cell 0, h2.cell 1, h1.cell 3, h1.cell 5⟩
  have HFAR := Lib.hid hfar
  have hw1 : Fr (At3 q.m q.k (w.heap.size + 1)) w1 w1.drew := (Fr.refl _ w1).drew
  clear hf1 hbr hbo1 hbk hfar hmp hlt
  go_region_held3 (fun W => Fr (At3 q.m q.k (w.heap.size + 1)) w1 W ∧ W.cell? ⟨q.p, 0, none⟩ = some (.pointer (some ⟨q.c, 0, none⟩)) ∧ W.cell? ⟨q.p, 1, none⟩ = some (.pointer (some ⟨q.h, 0, none⟩)) ∧ W.cell? ⟨w.heap.size, 3, none⟩ = some (.string oac) ∧ W.cell? ⟨w.heap.size, 5, none⟩ = some (.int .i64 osm))
    (first
      | (refine HX.out _ ?_; with_reducible assumption)
      | (refine HX.out _ (Fr.trans ?_ ((fr_set4 _ _ _ _ _ _).mono fun _ _ h => .inr (.inr h))); with_reducible assumption))
    (first
      | (go_at_call 86; (with_reducible refine (HO.out _ (HF1.out.drew)).mono ?_); rintro e u1 ⟨rfl, hb1, hg⟩; have ka1 : Fr (At2 q.m q.k) w1 u1 := Fr.trans (Fr.refl _ w1).drew hg; have hg1 : Fr (At3 q.m q.k (w.heap.size + 1)) w1 u1 := ka1.mono (fun _ _ h => by rcases h with h | h; exact .inl h; exact .inr (.inl h)); clear hg)
      | (go_at_call 85; (with_reducible refine (HAB.out _ hb1).mono ?_); rintro e u2 ⟨rfl, hb2, hg⟩; have ka2 : Fr (At2 q.m q.k) w1 u2 := Fr.trans ka1 hg; have hg2 : Fr (At3 q.m q.k (w.heap.size + 1)) w1 u2 := ka2.mono (fun _ _ h => by rcases h with h | h; exact .inl h; exact .inr (.inl h)); clear hg; have hr2 := HBR.out.fr ka2 (HFAR.out _ (Nat.le_succ _)); have c0 := hr2.cell 0; have c1 := hr2.cell 1; have c2 := hr2.cell 2; have c3 := hr2.cell 3; have f0 := hr2.frozen 0; have f1 := hr2.frozen 1; have f2 := hr2.frozen 2; have f3 := hr2.frozen 3; simp only [List.getElem?_toArray, List.getElem?_cons_zero, List.getElem?_cons_succ] at c0 c1 c2 c3))
  all_goals
    have hd := blk_set4 hr2 (.int .i64 re) (.int .i64 rh) (.int .i64 rs) (.int .i64 rn)
    have HD := Lib.hid (did_of HH.out (Nat.le_succ _) HF1.out ka2 hb2 (fr_set4 u2 (w.heap.size + 1) (.int .i64 re) (.int .i64 rh) (.int .i64 rs) (.int .i64 rn)))
    clear c0 c1 c2 c3 f0 f1 f2 f3 hr2 HX
    generalize (((u2.setCell ⟨w.heap.size + 1, 0, none⟩ (.int .i64 re)).setCell ⟨w.heap.size + 1, 1, none⟩ (.int .i64 rh)).setCell ⟨w.heap.size + 1, 2, none⟩ (.int .i64 rs)).setCell ⟨w.heap.size + 1, 3, none⟩ (.int .i64 rn) = u3 at *
    have d0 := hd.cell 0
    have d1 := hd.cell 1
    have d2 := hd.cell 2
    have d3 := hd.cell 3
    simp only [List.getElem?_toArray, List.getElem?_cons_zero, List.getElem?_cons_succ] at d0 d1 d2 d3
    go_wp2
    refine bodyPost_ret (v := .agg #[.int .i64 re, .int .i64 rh, .int .i64 rs, .int .i64 rn]) (by simp [results, Tryz.results50, go_sem, d0, d1, d2, d3]) rfl ?_
    exact ⟨rfl, HD.out⟩
set_option maxRecDepth 100000 in
set_option maxHeartbeats 2000000 in
theorem bcapture_any (q : Pl) (b : Bk) (o : Od) (v : Value) (w : World) (h : BkS w q b) (ho : o.ok) (hr : rightO o = true) (hk : o.kd = 4) (hcl : ¬ o.per ≤ b.cl) :
    Calls Tryz.prog 53 #[.pointer (some ⟨q.p, 0, none⟩), o.val v] w (DidB q (effR b o) (effB b o) w) := by
  have hI := eff_inv h.inv ho hr
  have eB : effB b o = ⟨takeSS b.S b.H o.acct o.hold o.peer o.sum, takeHH b.S b.H o.acct o.hold o.peer o.sum, b.cl⟩ := by unfold effB; rw [if_neg (show ¬ o.kd = 1 by omega), if_neg (show ¬ o.kd = 2 by omega), if_neg (show ¬ o.kd = 3 by omega), if_pos hk, if_neg hcl]
  have eR : effR b o = aboutR (takeSS b.S b.H o.acct o.hold o.peer o.sum) o.an (takeE b.S b.H o.acct o.hold o.peer o.sum) := by unfold effR; rw [if_neg (show ¬ o.kd = 1 by omega), if_neg (show ¬ o.kd = 2 by omega), if_neg (show ¬ o.kd = 3 by omega), if_pos hk, if_neg hcl]
  rw [eB] at hI
  rw [eB, eR]
  obtain ⟨-, -, -, hac, hpe, hsm, hpr, hhd, -⟩ := ho
  clear eB eR hr
  obtain ⟨ocl, osq, okd, oac, ope, osm, olg, opr, ohd, ont⟩ := o
  unfold Od.val Od.cs Od.an at *
  simp only at hac hpe hsm hpr hhd hI hcl ⊢
  clear hk
  have HH := Lib.hid h
  have HI := Lib.hid hI
  have HO : Hid (∀ W, Fr No w W → Calls Tryz.prog 91 #[.pointer (some ⟨q.h, 0, none⟩), .pointer (some ⟨q.c, 0, none⟩), .string oac, .int .i64 ohd, .string ope, .int .i64 osm] W fun e w' => e = .returned (.int .i64 (takeE b.S b.H oac ohd ope osm)) ∧ BkS w' q ⟨takeSS b.S b.H oac ohd ope osm, takeHH b.S b.H oac ohd ope osm, b.cl⟩ ∧ Fr (At2 q.m q.k) W w') := fun W hW =>
    (take_any q.c q.m q.h q.k b.S b.H oac ope ohd osm W (h.ch.no hW) h.inv.st.kp.inv h.inv.st.kp.good (h.hd.no hW) h.inv.st.pos (by have := h.inv.st.len; omega) h.ne hac hpe hhd hsm).mono fun e w' hx => ⟨hx.ret, (h.no hW).both hx hI, hx.fr⟩
  generalize takeE b.S b.H oac ohd ope osm = E at *
  generalize takeSS b.S b.H oac ohd ope osm = T at *
  generalize takeHH b.S b.H oac ohd ope osm = T2 at *
  obtain ⟨re, rh, rs, rn, hR⟩ : ∃ a b c d, aboutR T oac.data.toList E = ⟨a, b, c, d⟩ := ⟨_, _, _, _, rfl⟩
  have HAB : Hid (∀ W, BkS W q ⟨T, T2, b.cl⟩ → Calls Tryz.prog 85 #[.pointer (some ⟨q.p, 0, none⟩), .string oac, .int .i64 E] W fun e w' => e = .returned (.agg #[.int .i64 re, .int .i64 rh, .int .i64 rs, .int .i64 rn]) ∧ BkS w' q ⟨T, T2, b.cl⟩ ∧ Fr (At2 q.m q.k) W w') := fun W hW => by
    have hx := about_any q ⟨T, T2, b.cl⟩ oac E W hW hac
    rw [hR] at hx
    exact hx.mono fun e w' h => ⟨h.1, h.2.1, h.2.2.mono fun _ _ h => .inl h⟩
  rw [hR]
  have hfar : ∀ g, w.heap.size ≤ g → ¬ At2 q.m q.k g := fun g hg e => Pl.far h hg (by rcases e with e | e; exact .inr (.inl e); exact .inr (.inr e))
  have hbk := h.blk
  have hbo := Blk.new w 39 #[.int .i64 ocl, .int .i64 osq, .int .i64 okd, .string oac, .string ope, .int .i64 osm, v, .int .i64 opr, .int .i64 ohd, .string ont]
  have hbr := Blk.new (w.alloc (.cells #[.int .i64 ocl, .int .i64 osq, .int .i64 okd, .string oac, .string ope, .int .i64 osm, v, .int .i64 opr, .int .i64 ohd, .string ont] 39)) 42 #[.int .i64 0, .int .i64 0, .int .i64 0, .int .i64 0]
  rw [World.size_alloc] at hbr
  have hbo1 := hbo.alloc (.cells #[.int .i64 0, .int .i64 0, .int .i64 0, .int .i64 0] 42)
  have hf1 : Fr No w ((w.alloc (.cells #[.int .i64 ocl, .int .i64 osq, .int .i64 okd, .string oac, .string ope, .int .i64 osm, v, .int .i64 opr, .int .i64 ohd, .string ont] 39)).alloc (.cells #[.int .i64 0, .int .i64 0, .int .i64 0, .int .i64 0] 42)) := ((Fr.refl _ _).alloc _).alloc _
  have hmp := h.mp
  have hlt : q.p < w.heap.size := h.blk.lt
  have HCL : Hid (∀ W, Fr No w W → Calls Tryz.prog 87 #[.pointer (some ⟨q.p, 0, none⟩), .int .i64 opr] W fun e w' => e = .returned (.bool false) ∧ W = w') := fun W hW => by
    have hx := isClosed_any q b opr W (h.no hW)
    rw [decide_eq_false hcl] at hx
    exact hx
  clear hcl
  have o7 := hbo1.cell 7
  simp only [List.getElem?_toArray, List.getElem?_cons_zero, List.getElem?_cons_succ] at o7
  clear h hI hR hac hsm hpe hpr hhd hbo
  go_enter Tryz.func53, Tryz.ntmps53
  go_wp2_with fail
  (with_reducible refine (HCL.out _ (((Fr.refl _ _).alloc _).alloc _)).mono ?_)
  rintro e w0 ⟨rfl, rfl⟩
  clear HCL o7
  go_upto_region 3 with (fail)
  generalize ((w.alloc (.cells #[.int .i64 ocl, .int .i64 osq, .int .i64 okd, .string oac, .string ope, .int .i64 osm, v, .int .i64 opr, .int .i64 ohd, .string ont] 39)).alloc (.cells #[.int .i64 0, .int .i64 0, .int .i64 0, .int .i64 0] 42)) = w1 at *
  have HF1 := Lib.hid hf1
  have HBR := Lib.hid hbr
  have HX : Hid (∀ W, Fr (At3 q.m q.k (w.heap.size + 1)) w1 W → Fr (At3 q.m q.k (w.heap.size + 1)) w1 W ∧ W.cell? ⟨q.p, 0, none⟩ = some (.pointer (some ⟨q.c, 0, none⟩)) ∧ W.cell? ⟨q.p, 1, none⟩ = some (.pointer (some ⟨q.h, 0, none⟩)) ∧ W.cell? ⟨w.heap.size, 3, none⟩ = some (.string oac) ∧ W.cell? ⟨w.heap.size, 4, none⟩ = some (.string ope) ∧ W.cell? ⟨w.heap.size, 5, none⟩ = some (.int .i64 osm) ∧ W.cell? ⟨w.heap.size, 8, none⟩ = some (.int .i64 ohd)) := fun W hW => by
    have h1 := hbo1.fr hW (fun e => by rcases e with e | e | e; exact hfar _ (Nat.le_refl _) (.inl e); exact hfar _ (Nat.le_refl _) (.inr e); omega)
    have h2 := (hbk.fr hf1 (fun h => h)).fr hW (fun e => by rcases e with e | e | e; exact hmp.1 e.symm; exact hmp.2 e.symm; omega)
    exact ⟨hW, h2.cell 0, h2.cell 1, h1.cell 3, h1.cell 4, h1.cell 5, h1.cell 8⟩
  have HFAR := Lib.hid hfar
  have hw1 : Fr (At3 q.m q.k (w.heap.size + 1)) w1 w1.drew := (Fr.refl _ w1).drew
  clear hf1 hbr hbo1 hbk hfar hmp hlt
  go_region_held3 (fun W => Fr (At3 q.m q.k (w.heap.size + 1)) w1 W ∧ W.cell? ⟨q.p, 0, none⟩ = some (.pointer (some ⟨q.c, 0, none⟩)) ∧ W.cell? ⟨q.p, 1, none⟩ = some (.pointer (some ⟨q.h, 0, none⟩)) ∧ W.cell? ⟨w.heap.size, 3, none⟩ = some (.string oac) ∧ W.cell? ⟨w.heap.size, 4, none⟩ = some (.string ope) ∧ W.cell? ⟨w.heap.size, 5, none⟩ = some (.int .i64 osm) ∧ W.cell? ⟨w.heap.size, 8, none⟩ = some (.int .i64 ohd))
    (first
      | (refine HX.out _ ?_; with_reducible assumption)
      | (refine HX.out _ (Fr.trans ?_ ((fr_set4 _ _ _ _ _ _).mono fun _ _ h => .inr (.inr h))); with_reducible assumption))
    (first
      | (go_at_call 91; (with_reducible refine (HO.out _ (HF1.out.drew)).mono ?_); rintro e u1 ⟨rfl, hb1, hg⟩; have ka1 : Fr (At2 q.m q.k) w1 u1 := Fr.trans (Fr.refl _ w1).drew hg; have hg1 : Fr (At3 q.m q.k (w.heap.size + 1)) w1 u1 := ka1.mono (fun _ _ h => by rcases h with h | h; exact .inl h; exact .inr (.inl h)); clear hg)
      | (go_at_call 85; (with_reducible refine (HAB.out _ hb1).mono ?_); rintro e u2 ⟨rfl, hb2, hg⟩; have ka2 : Fr (At2 q.m q.k) w1 u2 := Fr.trans ka1 hg; have hg2 : Fr (At3 q.m q.k (w.heap.size + 1)) w1 u2 := ka2.mono (fun _ _ h => by rcases h with h | h; exact .inl h; exact .inr (.inl h)); clear hg; have hr2 := HBR.out.fr ka2 (HFAR.out _ (Nat.le_succ _)); have c0 := hr2.cell 0; have c1 := hr2.cell 1; have c2 := hr2.cell 2; have c3 := hr2.cell 3; have f0 := hr2.frozen 0; have f1 := hr2.frozen 1; have f2 := hr2.frozen 2; have f3 := hr2.frozen 3; simp only [List.getElem?_toArray, List.getElem?_cons_zero, List.getElem?_cons_succ] at c0 c1 c2 c3))
  all_goals
    have hd := blk_set4 hr2 (.int .i64 re) (.int .i64 rh) (.int .i64 rs) (.int .i64 rn)
    have HD := Lib.hid (did_of HH.out (Nat.le_succ _) HF1.out ka2 hb2 (fr_set4 u2 (w.heap.size + 1) (.int .i64 re) (.int .i64 rh) (.int .i64 rs) (.int .i64 rn)))
    clear c0 c1 c2 c3 f0 f1 f2 f3 hr2 HX
    generalize (((u2.setCell ⟨w.heap.size + 1, 0, none⟩ (.int .i64 re)).setCell ⟨w.heap.size + 1, 1, none⟩ (.int .i64 rh)).setCell ⟨w.heap.size + 1, 2, none⟩ (.int .i64 rs)).setCell ⟨w.heap.size + 1, 3, none⟩ (.int .i64 rn) = u3 at *
    have d0 := hd.cell 0
    have d1 := hd.cell 1
    have d2 := hd.cell 2
    have d3 := hd.cell 3
    simp only [List.getElem?_toArray, List.getElem?_cons_zero, List.getElem?_cons_succ] at d0 d1 d2 d3
    go_wp2
    refine bodyPost_ret (v := .agg #[.int .i64 re, .int .i64 rh, .int .i64 rs, .int .i64 rn]) (by simp [results, Tryz.results53, go_sem, d0, d1, d2, d3]) rfl ?_
    exact ⟨rfl, HD.out⟩
set_option maxRecDepth 100000 in
set_option maxHeartbeats 2000000 in
theorem brelease_any (q : Pl) (b : Bk) (o : Od) (v : Value) (w : World) (h : BkS w q b) (ho : o.ok) (hr : rightO o = true) (hk : o.kd = 5) :
    Calls Tryz.prog 54 #[.pointer (some ⟨q.p, 0, none⟩), o.val v] w (DidB q (effR b o) (effB b o) w) := by
  have hI := eff_inv h.inv ho hr
  have eB : effB b o = ⟨freeSS b.S b.H o.an o.hold, freeHH b.S b.H o.an o.hold, b.cl⟩ := by unfold effB; rw [if_neg (show ¬ o.kd = 1 by omega), if_neg (show ¬ o.kd = 2 by omega), if_neg (show ¬ o.kd = 3 by omega), if_neg (show ¬ o.kd = 4 by omega), if_pos hk]
  have eR : effR b o = aboutR (freeSS b.S b.H o.an o.hold) o.an (freeE b.S b.H o.an o.hold) := by unfold effR; rw [if_neg (show ¬ o.kd = 1 by omega), if_neg (show ¬ o.kd = 2 by omega), if_neg (show ¬ o.kd = 3 by omega), if_neg (show ¬ o.kd = 4 by omega), if_pos hk]
  rw [eB] at hI
  rw [eB, eR]
  obtain ⟨-, -, -, hac, hpe, hsm, hpr, hhd, -⟩ := ho
  clear eB eR hr
  obtain ⟨ocl, osq, okd, oac, ope, osm, olg, opr, ohd, ont⟩ := o
  unfold Od.val Od.cs Od.an at *
  simp only at hac hpe hsm hpr hhd hI ⊢
  clear hk
  have HH := Lib.hid h
  have HI := Lib.hid hI
  have HO : Hid (∀ W, Fr No w W → Calls Tryz.prog 92 #[.pointer (some ⟨q.h, 0, none⟩), .pointer (some ⟨q.c, 0, none⟩), .string oac, .int .i64 ohd] W fun e w' => e = .returned (.int .i64 (freeE b.S b.H oac.data.toList ohd)) ∧ BkS w' q ⟨freeSS b.S b.H oac.data.toList ohd, freeHH b.S b.H oac.data.toList ohd, b.cl⟩ ∧ Fr (At2 q.m q.k) W w') := fun W hW =>
    (free_any q.c q.m q.h q.k b.S b.H oac ohd W (h.ch.no hW) h.inv.st.kp.inv (h.hd.no hW) h.inv.st.pos (by have := h.inv.st.len; omega) h.ne hac hhd).mono fun e w' hx => ⟨hx.ret, (h.no hW).both hx hI, hx.fr⟩
  generalize freeE b.S b.H oac.data.toList ohd = E at *
  generalize freeSS b.S b.H oac.data.toList ohd = T at *
  generalize freeHH b.S b.H oac.data.toList ohd = T2 at *
  obtain ⟨re, rh, rs, rn, hR⟩ : ∃ a b c d, aboutR T oac.data.toList E = ⟨a, b, c, d⟩ := ⟨_, _, _, _, rfl⟩
  have HAB : Hid (∀ W, BkS W q ⟨T, T2, b.cl⟩ → Calls Tryz.prog 85 #[.pointer (some ⟨q.p, 0, none⟩), .string oac, .int .i64 E] W fun e w' => e = .returned (.agg #[.int .i64 re, .int .i64 rh, .int .i64 rs, .int .i64 rn]) ∧ BkS w' q ⟨T, T2, b.cl⟩ ∧ Fr (At2 q.m q.k) W w') := fun W hW => by
    have hx := about_any q ⟨T, T2, b.cl⟩ oac E W hW hac
    rw [hR] at hx
    exact hx.mono fun e w' h => ⟨h.1, h.2.1, h.2.2.mono fun _ _ h => .inl h⟩
  rw [hR]
  have hfar : ∀ g, w.heap.size ≤ g → ¬ At2 q.m q.k g := fun g hg e => Pl.far h hg (by rcases e with e | e; exact .inr (.inl e); exact .inr (.inr e))
  have hbk := h.blk
  have hbo := Blk.new w 39 #[.int .i64 ocl, .int .i64 osq, .int .i64 okd, .string oac, .string ope, .int .i64 osm, v, .int .i64 opr, .int .i64 ohd, .string ont]
  have hbr := Blk.new (w.alloc (.cells #[.int .i64 ocl, .int .i64 osq, .int .i64 okd, .string oac, .string ope, .int .i64 osm, v, .int .i64 opr, .int .i64 ohd, .string ont] 39)) 42 #[.int .i64 0, .int .i64 0, .int .i64 0, .int .i64 0]
  rw [World.size_alloc] at hbr
  have hbo1 := hbo.alloc (.cells #[.int .i64 0, .int .i64 0, .int .i64 0, .int .i64 0] 42)
  have hf1 : Fr No w ((w.alloc (.cells #[.int .i64 ocl, .int .i64 osq, .int .i64 okd, .string oac, .string ope, .int .i64 osm, v, .int .i64 opr, .int .i64 ohd, .string ont] 39)).alloc (.cells #[.int .i64 0, .int .i64 0, .int .i64 0, .int .i64 0] 42)) := ((Fr.refl _ _).alloc _).alloc _
  have hmp := h.mp
  have hlt : q.p < w.heap.size := h.blk.lt
  clear h hI hR hac hsm hpe hpr hhd hbo
  go_enter Tryz.func54, Tryz.ntmps54
  go_upto_region 1 with (fail)
  generalize ((w.alloc (.cells #[.int .i64 ocl, .int .i64 osq, .int .i64 okd, .string oac, .string ope, .int .i64 osm, v, .int .i64 opr, .int .i64 ohd, .string ont] 39)).alloc (.cells #[.int .i64 0, .int .i64 0, .int .i64 0, .int .i64 0] 42)) = w1 at *
  have HF1 := Lib.hid hf1
  have HBR := Lib.hid hbr
  have HX : Hid (∀ W, Fr (At3 q.m q.k (w.heap.size + 1)) w1 W → Fr (At3 q.m q.k (w.heap.size + 1)) w1 W ∧ W.cell? ⟨q.p, 0, none⟩ = some (.pointer (some ⟨q.c, 0, none⟩)) ∧ W.cell? ⟨q.p, 1, none⟩ = some (.pointer (some ⟨q.h, 0, none⟩)) ∧ W.cell? ⟨w.heap.size, 3, none⟩ = some (.string oac) ∧ W.cell? ⟨w.heap.size, 8, none⟩ = some (.int .i64 ohd)) := fun W hW => by
    have h1 := hbo1.fr hW (fun e => by rcases e with e | e | e; exact hfar _ (Nat.le_refl _) (.inl e); exact hfar _ (Nat.le_refl _) (.inr e); omega)
    have h2 := (hbk.fr hf1 (fun h => h)).fr hW (fun e => by rcases e with e | e | e; exact hmp.1 e.symm; exact hmp.2 e.symm; omega)
    exact ⟨hW, h2.cell 0, h2.cell 1, h1.cell 3, h1.cell 8⟩
  have HFAR := Lib.hid hfar
  have hw1 : Fr (At3 q.m q.k (w.heap.size + 1)) w1 w1.drew := (Fr.refl _ w1).drew
  clear hf1 hbr hbo1 hbk hfar hmp hlt
  go_region_held3 (fun W => Fr (At3 q.m q.k (w.heap.size + 1)) w1 W ∧ W.cell? ⟨q.p, 0, none⟩ = some (.pointer (some ⟨q.c, 0, none⟩)) ∧ W.cell? ⟨q.p, 1, none⟩ = some (.pointer (some ⟨q.h, 0, none⟩)) ∧ W.cell? ⟨w.heap.size, 3, none⟩ = some (.string oac) ∧ W.cell? ⟨w.heap.size, 8, none⟩ = some (.int .i64 ohd))
    (first
      | (refine HX.out _ ?_; with_reducible assumption)
      | (refine HX.out _ (Fr.trans ?_ ((fr_set4 _ _ _ _ _ _).mono fun _ _ h => .inr (.inr h))); with_reducible assumption))
    (first
      | (go_at_call 92; (with_reducible refine (HO.out _ (HF1.out.drew)).mono ?_); rintro e u1 ⟨rfl, hb1, hg⟩; have ka1 : Fr (At2 q.m q.k) w1 u1 := Fr.trans (Fr.refl _ w1).drew hg; have hg1 : Fr (At3 q.m q.k (w.heap.size + 1)) w1 u1 := ka1.mono (fun _ _ h => by rcases h with h | h; exact .inl h; exact .inr (.inl h)); clear hg)
      | (go_at_call 85; (with_reducible refine (HAB.out _ hb1).mono ?_); rintro e u2 ⟨rfl, hb2, hg⟩; have ka2 : Fr (At2 q.m q.k) w1 u2 := Fr.trans ka1 hg; have hg2 : Fr (At3 q.m q.k (w.heap.size + 1)) w1 u2 := ka2.mono (fun _ _ h => by rcases h with h | h; exact .inl h; exact .inr (.inl h)); clear hg; have hr2 := HBR.out.fr ka2 (HFAR.out _ (Nat.le_succ _)); have c0 := hr2.cell 0; have c1 := hr2.cell 1; have c2 := hr2.cell 2; have c3 := hr2.cell 3; have f0 := hr2.frozen 0; have f1 := hr2.frozen 1; have f2 := hr2.frozen 2; have f3 := hr2.frozen 3; simp only [List.getElem?_toArray, List.getElem?_cons_zero, List.getElem?_cons_succ] at c0 c1 c2 c3))
  all_goals
    have hd := blk_set4 hr2 (.int .i64 re) (.int .i64 rh) (.int .i64 rs) (.int .i64 rn)
    have HD := Lib.hid (did_of HH.out (Nat.le_succ _) HF1.out ka2 hb2 (fr_set4 u2 (w.heap.size + 1) (.int .i64 re) (.int .i64 rh) (.int .i64 rs) (.int .i64 rn)))
    clear c0 c1 c2 c3 f0 f1 f2 f3 hr2 HX
    generalize (((u2.setCell ⟨w.heap.size + 1, 0, none⟩ (.int .i64 re)).setCell ⟨w.heap.size + 1, 1, none⟩ (.int .i64 rh)).setCell ⟨w.heap.size + 1, 2, none⟩ (.int .i64 rs)).setCell ⟨w.heap.size + 1, 3, none⟩ (.int .i64 rn) = u3 at *
    have d0 := hd.cell 0
    have d1 := hd.cell 1
    have d2 := hd.cell 2
    have d3 := hd.cell 3
    simp only [List.getElem?_toArray, List.getElem?_cons_zero, List.getElem?_cons_succ] at d0 d1 d2 d3
    go_wp2
    refine bodyPost_ret (v := .agg #[.int .i64 re, .int .i64 rh, .int .i64 rs, .int .i64 rn]) (by simp [results, Tryz.results54, go_sem, d0, d1, d2, d3]) rfl ?_
    exact ⟨rfl, HD.out⟩
set_option maxRecDepth 100000 in
set_option maxHeartbeats 2000000 in
theorem bpost_any (q : Pl) (b : Bk) (o : Od) (v : Value) (w : World) (h : BkS w q b) (ho : o.ok) (hr : rightO o = true) (hk : o.kd = 2) (F : Nat → Prop) (hv : LgS w F v o.legs) (hF : ∀ k, F k → k < w.heap.size ∧ k ≠ q.m) (hll : o.legs.length ≤ 100) (hcl : ¬ o.per ≤ b.cl) :
    Calls Tryz.prog 51 #[.pointer (some ⟨q.p, 0, none⟩), o.val v] w (DidB q (effR b o) (effB b o) w) := by
  have hI := eff_inv h.inv ho hr
  have eB : effB b o = ⟨makeS b.S o.legs, b.H, b.cl⟩ := by unfold effB; rw [if_neg (show ¬ o.kd = 1 by omega), if_pos hk, if_neg hcl]
  have eR : effR b o = errR (checkE b.S o.legs) := by unfold effR; rw [if_neg (show ¬ o.kd = 1 by omega), if_pos hk, if_neg hcl]
  rw [eB] at hI
  rw [eB, eR]
  obtain ⟨-, -, -, hac, hpe, hsm, hpr, hhd, -⟩ := ho
  clear eB eR hr
  obtain ⟨ocl, osq, okd, oac, ope, osm, olg, opr, ohd, ont⟩ := o
  unfold Od.val Od.cs at *
  simp only at hac hpe hsm hpr hhd hI hcl hv hll ⊢
  clear hk
  have HH := Lib.hid h
  have HI := Lib.hid hI
  have HO : Hid (∀ W, Fr No w W → Calls Tryz.prog 88 #[.pointer (some ⟨q.c, 0, none⟩), v] W fun e w' => e = .returned (.int .i64 (checkE b.S olg)) ∧ BkS w' q ⟨makeS b.S olg, b.H, b.cl⟩ ∧ Fr (At2 q.m q.k) W w') := fun W hW =>
    by
    obtain ⟨A, c, cells, rfl, hrd, hE, h1, h2⟩ := hv.no hW
    exact (make_any q.c q.m b.S F A c cells olg W (h.ch.no hW) h.inv.st.kp.inv hrd (fun k hk => ⟨Nat.lt_of_lt_of_le (hF k hk).1 hW.size, (hF k hk).2⟩) hE hll).mono fun e w' hx => ⟨hx.1, (h.no hW).chart hx.2.1 hx.2.2 hI, hx.2.2.mono fun _ _ h => .inl h⟩
  generalize checkE b.S olg = E at *
  generalize makeS b.S olg = T at *
  have hfar : ∀ g, w.heap.size ≤ g → ¬ At2 q.m q.k g := fun g hg e => Pl.far h hg (by rcases e with e | e; exact .inr (.inl e); exact .inr (.inr e))
  have hbk := h.blk
  have hbo := Blk.new w 39 #[.int .i64 ocl, .int .i64 osq, .int .i64 okd, .string oac, .string ope, .int .i64 osm, v, .int .i64 opr, .int .i64 ohd, .string ont]
  have hbr := Blk.new (w.alloc (.cells #[.int .i64 ocl, .int .i64 osq, .int .i64 okd, .string oac, .string ope, .int .i64 osm, v, .int .i64 opr, .int .i64 ohd, .string ont] 39)) 42 #[.int .i64 0, .int .i64 0, .int .i64 0, .int .i64 0]
  rw [World.size_alloc] at hbr
  have hbo1 := hbo.alloc (.cells #[.int .i64 0, .int .i64 0, .int .i64 0, .int .i64 0] 42)
  have hf1 : Fr No w ((w.alloc (.cells #[.int .i64 ocl, .int .i64 osq, .int .i64 okd, .string oac, .string ope, .int .i64 osm, v, .int .i64 opr, .int .i64 ohd, .string ont] 39)).alloc (.cells #[.int .i64 0, .int .i64 0, .int .i64 0, .int .i64 0] 42)) := ((Fr.refl _ _).alloc _).alloc _
  have hmp := h.mp
  have hlt : q.p < w.heap.size := h.blk.lt
  have HCL : Hid (∀ W, Fr No w W → Calls Tryz.prog 87 #[.pointer (some ⟨q.p, 0, none⟩), .int .i64 opr] W fun e w' => e = .returned (.bool false) ∧ W = w') := fun W hW => by
    have hx := isClosed_any q b opr W (h.no hW)
    rw [decide_eq_false hcl] at hx
    exact hx
  clear hcl
  have o7 := hbo1.cell 7
  simp only [List.getElem?_toArray, List.getElem?_cons_zero, List.getElem?_cons_succ] at o7
  clear h hI hac hsm hpe hpr hhd hbo hv hF hll
  go_enter Tryz.func51, Tryz.ntmps51
  go_wp2_with fail
  (with_reducible refine (HCL.out _ (((Fr.refl _ _).alloc _).alloc _)).mono ?_)
  rintro e w0 ⟨rfl, rfl⟩
  clear HCL o7
  go_upto_region 3 with (fail)
  generalize ((w.alloc (.cells #[.int .i64 ocl, .int .i64 osq, .int .i64 okd, .string oac, .string ope, .int .i64 osm, v, .int .i64 opr, .int .i64 ohd, .string ont] 39)).alloc (.cells #[.int .i64 0, .int .i64 0, .int .i64 0, .int .i64 0] 42)) = w1 at *
  have HF1 := Lib.hid hf1
  have HBR := Lib.hid hbr
  have HX : Hid (∀ W, Fr (At3 q.m q.k (w.heap.size + 1)) w1 W → Fr (At3 q.m q.k (w.heap.size + 1)) w1 W ∧ W.cell? ⟨q.p, 0, none⟩ = some (.pointer (some ⟨q.c, 0, none⟩)) ∧ W.cell? ⟨q.p, 1, none⟩ = some (.pointer (some ⟨q.h, 0, none⟩)) ∧ W.cell? ⟨w.heap.size, 6, none⟩ = some (v)) := fun W hW => by
    have h1 := hbo1.fr hW (fun e => by rcases e with e | e | e; exact hfar _ (Nat.le_refl _) (.inl e); exact hfar _ (Nat.le_refl _) (.inr e); omega)
    have h2 := (hbk.fr hf1 (fun h => h)).fr hW (fun e => by rcases e with e | e | e; exact hmp.1 e.symm; exact hmp.2 e.symm; omega)
    exact ⟨hW, h2.cell 0, h2.cell 1, h1.cell 6⟩
  have HFAR := Lib.hid hfar
  have hw1 : Fr (At3 q.m q.k (w.heap.size + 1)) w1 w1.drew := (Fr.refl _ w1).drew
  clear hf1 hbr hbo1 hbk hfar hmp hlt
  go_region_held3 (fun W => Fr (At3 q.m q.k (w.heap.size + 1)) w1 W ∧ W.cell? ⟨q.p, 0, none⟩ = some (.pointer (some ⟨q.c, 0, none⟩)) ∧ W.cell? ⟨q.p, 1, none⟩ = some (.pointer (some ⟨q.h, 0, none⟩)) ∧ W.cell? ⟨w.heap.size, 6, none⟩ = some (v))
    (first
      | (refine HX.out _ ?_; with_reducible assumption)
      | (refine HX.out _ (Fr.trans ?_ ((fr_set4 _ _ _ _ _ _).mono fun _ _ h => .inr (.inr h))); with_reducible assumption))
    (first
      | (go_at_call 88; (with_reducible refine (HO.out _ (HF1.out.drew)).mono ?_); rintro e u2 ⟨rfl, hb2, hg⟩; have ka2 : Fr (At2 q.m q.k) w1 u2 := Fr.trans (Fr.refl _ w1).drew hg; have hg2 : Fr (At3 q.m q.k (w.heap.size + 1)) w1 u2 := ka2.mono (fun _ _ h => by rcases h with h | h; exact .inl h; exact .inr (.inl h)); clear hg; have hr2 := HBR.out.fr ka2 (HFAR.out _ (Nat.le_succ _)); have c0 := hr2.cell 0; have c1 := hr2.cell 1; have c2 := hr2.cell 2; have c3 := hr2.cell 3; have f0 := hr2.frozen 0; have f1 := hr2.frozen 1; have f2 := hr2.frozen 2; have f3 := hr2.frozen 3; simp only [List.getElem?_toArray, List.getElem?_cons_zero, List.getElem?_cons_succ] at c0 c1 c2 c3))
  all_goals
    have hd := blk_set4 hr2 (.int .i64 E) (.int .i64 0) (.int .i64 0) (.int .i64 0)
    have HD := Lib.hid (did_of HH.out (Nat.le_succ _) HF1.out ka2 hb2 (fr_set4 u2 (w.heap.size + 1) (.int .i64 E) (.int .i64 0) (.int .i64 0) (.int .i64 0)))
    clear c0 c1 c2 c3 f0 f1 f2 f3 hr2 HX
    generalize (((u2.setCell ⟨w.heap.size + 1, 0, none⟩ (.int .i64 E)).setCell ⟨w.heap.size + 1, 1, none⟩ (.int .i64 0)).setCell ⟨w.heap.size + 1, 2, none⟩ (.int .i64 0)).setCell ⟨w.heap.size + 1, 3, none⟩ (.int .i64 0) = u3 at *
    have d0 := hd.cell 0
    have d1 := hd.cell 1
    have d2 := hd.cell 2
    have d3 := hd.cell 3
    simp only [List.getElem?_toArray, List.getElem?_cons_zero, List.getElem?_cons_succ] at d0 d1 d2 d3
    go_wp2
    refine bodyPost_ret (v := .agg #[.int .i64 E, .int .i64 0, .int .i64 0, .int .i64 0]) (by simp [results, Tryz.results51, go_sem, d0, d1, d2, d3]) rfl ?_
    exact ⟨rfl, HD.out⟩
set_option maxRecDepth 100000 in
set_option maxHeartbeats 2000000 in
theorem bpost_closed (q : Pl) (b : Bk) (o : Od) (v : Value) (w : World) (h : BkS w q b) (hk : o.kd = 2) (hcl : o.per ≤ b.cl) :
    Calls Tryz.prog 51 #[.pointer (some ⟨q.p, 0, none⟩), o.val v] w (DidB q (effR b o) (effB b o) w) := by
  have eB : effB b o = b := by unfold effB; rw [if_neg (show ¬ o.kd = 1 by omega), if_pos hk, if_pos hcl]
  have eR : effR b o = errR 10 := by unfold effR; rw [if_neg (show ¬ o.kd = 1 by omega), if_pos hk, if_pos hcl]
  rw [eB, eR]
  clear eB eR hk
  obtain ⟨ocl, osq, okd, oac, ope, osm, olg, opr, ohd, ont⟩ := o
  unfold Od.val Od.cs at *
  simp only at hcl ⊢
  have HH := Lib.hid h
  have HCL : Hid (∀ W, Fr No w W → Calls Tryz.prog 87 #[.pointer (some ⟨q.p, 0, none⟩), .int .i64 opr] W fun e w' => e = .returned (.bool true) ∧ W = w') := fun W hW => by
    have hx := isClosed_any q b opr W (h.no hW)
    rw [decide_eq_true hcl] at hx
    exact hx
  have hbo := Blk.new w 39 #[.int .i64 ocl, .int .i64 osq, .int .i64 okd, .string oac, .string ope, .int .i64 osm, v, .int .i64 opr, .int .i64 ohd, .string ont]
  have hbr := Blk.new (w.alloc (.cells #[.int .i64 ocl, .int .i64 osq, .int .i64 okd, .string oac, .string ope, .int .i64 osm, v, .int .i64 opr, .int .i64 ohd, .string ont] 39)) 42 #[.int .i64 10, .int .i64 0, .int .i64 0, .int .i64 0]
  rw [World.size_alloc] at hbr
  have hbo1 := hbo.alloc (.cells #[.int .i64 0, .int .i64 0, .int .i64 0, .int .i64 0] 42)
  have o7 := hbo1.cell 7
  simp only [List.getElem?_toArray, List.getElem?_cons_zero, List.getElem?_cons_succ] at o7
  clear h hcl hbo hbo1
  go_enter Tryz.func51, Tryz.ntmps51
  go_wp2_with fail
  (with_reducible refine (HCL.out _ (((Fr.refl _ _).alloc _).alloc _)).mono ?_)
  rintro e w0 ⟨rfl, rfl⟩
  clear HCL o7
  have d0 := hbr.cell 0
  have d1 := hbr.cell 1
  have d2 := hbr.cell 2
  have d3 := hbr.cell 3
  simp only [List.getElem?_toArray, List.getElem?_cons_zero, List.getElem?_cons_succ] at d0 d1 d2 d3
  clear hbr
  go_wp2
  refine bodyPost_ret (v := .agg #[.int .i64 10, .int .i64 0, .int .i64 0, .int .i64 0]) (by simp [results, Tryz.results51, go_sem, d0, d1, d2, d3]) rfl ?_
  exact ⟨rfl, HH.out.no (((Fr.refl _ _).alloc _).alloc _), ((Fr.refl _ _).alloc _).alloc _⟩
set_option maxRecDepth 100000 in
set_option maxHeartbeats 2000000 in
theorem bcapture_closed (q : Pl) (b : Bk) (o : Od) (v : Value) (w : World) (h : BkS w q b) (hk : o.kd = 4) (hcl : o.per ≤ b.cl) :
    Calls Tryz.prog 53 #[.pointer (some ⟨q.p, 0, none⟩), o.val v] w (DidB q (effR b o) (effB b o) w) := by
  have eB : effB b o = b := by unfold effB; rw [if_neg (show ¬ o.kd = 1 by omega), if_neg (show ¬ o.kd = 2 by omega), if_neg (show ¬ o.kd = 3 by omega), if_pos hk, if_pos hcl]
  have eR : effR b o = errR 10 := by unfold effR; rw [if_neg (show ¬ o.kd = 1 by omega), if_neg (show ¬ o.kd = 2 by omega), if_neg (show ¬ o.kd = 3 by omega), if_pos hk, if_pos hcl]
  rw [eB, eR]
  clear eB eR hk
  obtain ⟨ocl, osq, okd, oac, ope, osm, olg, opr, ohd, ont⟩ := o
  unfold Od.val Od.cs at *
  simp only at hcl ⊢
  have HH := Lib.hid h
  have HCL : Hid (∀ W, Fr No w W → Calls Tryz.prog 87 #[.pointer (some ⟨q.p, 0, none⟩), .int .i64 opr] W fun e w' => e = .returned (.bool true) ∧ W = w') := fun W hW => by
    have hx := isClosed_any q b opr W (h.no hW)
    rw [decide_eq_true hcl] at hx
    exact hx
  have hbo := Blk.new w 39 #[.int .i64 ocl, .int .i64 osq, .int .i64 okd, .string oac, .string ope, .int .i64 osm, v, .int .i64 opr, .int .i64 ohd, .string ont]
  have hbr := Blk.new (w.alloc (.cells #[.int .i64 ocl, .int .i64 osq, .int .i64 okd, .string oac, .string ope, .int .i64 osm, v, .int .i64 opr, .int .i64 ohd, .string ont] 39)) 42 #[.int .i64 10, .int .i64 0, .int .i64 0, .int .i64 0]
  rw [World.size_alloc] at hbr
  have hbo1 := hbo.alloc (.cells #[.int .i64 0, .int .i64 0, .int .i64 0, .int .i64 0] 42)
  have o7 := hbo1.cell 7
  simp only [List.getElem?_toArray, List.getElem?_cons_zero, List.getElem?_cons_succ] at o7
  clear h hcl hbo hbo1
  go_enter Tryz.func53, Tryz.ntmps53
  go_wp2_with fail
  (with_reducible refine (HCL.out _ (((Fr.refl _ _).alloc _).alloc _)).mono ?_)
  rintro e w0 ⟨rfl, rfl⟩
  clear HCL o7
  have d0 := hbr.cell 0
  have d1 := hbr.cell 1
  have d2 := hbr.cell 2
  have d3 := hbr.cell 3
  simp only [List.getElem?_toArray, List.getElem?_cons_zero, List.getElem?_cons_succ] at d0 d1 d2 d3
  clear hbr
  go_wp2
  refine bodyPost_ret (v := .agg #[.int .i64 10, .int .i64 0, .int .i64 0, .int .i64 0]) (by simp [results, Tryz.results53, go_sem, d0, d1, d2, d3]) rfl ?_
  exact ⟨rfl, HH.out.no (((Fr.refl _ _).alloc _).alloc _), ((Fr.refl _ _).alloc _).alloc _⟩
set_option maxRecDepth 100000 in
set_option maxHeartbeats 2000000 in
theorem bclose_closed (q : Pl) (b : Bk) (o : Od) (v : Value) (w : World) (h : BkS w q b) (hk : o.kd = 6) (hcl : o.per ≤ b.cl) :
    Calls Tryz.prog 55 #[.pointer (some ⟨q.p, 0, none⟩), o.val v] w (DidB q (effR b o) (effB b o) w) := by
  have eB : effB b o = b := by unfold effB; rw [if_neg (show ¬ o.kd = 1 by omega), if_neg (show ¬ o.kd = 2 by omega), if_neg (show ¬ o.kd = 3 by omega), if_neg (show ¬ o.kd = 4 by omega), if_neg (show ¬ o.kd = 5 by omega), if_pos hk, if_pos hcl]
  have eR : effR b o = errR 10 := by unfold effR; rw [if_neg (show ¬ o.kd = 1 by omega), if_neg (show ¬ o.kd = 2 by omega), if_neg (show ¬ o.kd = 3 by omega), if_neg (show ¬ o.kd = 4 by omega), if_neg (show ¬ o.kd = 5 by omega), if_pos hk, if_pos hcl]
  rw [eB, eR]
  clear eB eR hk
  obtain ⟨ocl, osq, okd, oac, ope, osm, olg, opr, ohd, ont⟩ := o
  unfold Od.val Od.cs at *
  simp only at hcl ⊢
  have HH := Lib.hid h
  have HCL : Hid (∀ W, Fr No w W → Calls Tryz.prog 87 #[.pointer (some ⟨q.p, 0, none⟩), .int .i64 opr] W fun e w' => e = .returned (.bool true) ∧ W = w') := fun W hW => by
    have hx := isClosed_any q b opr W (h.no hW)
    rw [decide_eq_true hcl] at hx
    exact hx
  have hbo := Blk.new w 39 #[.int .i64 ocl, .int .i64 osq, .int .i64 okd, .string oac, .string ope, .int .i64 osm, v, .int .i64 opr, .int .i64 ohd, .string ont]
  have hbr := Blk.new (w.alloc (.cells #[.int .i64 ocl, .int .i64 osq, .int .i64 okd, .string oac, .string ope, .int .i64 osm, v, .int .i64 opr, .int .i64 ohd, .string ont] 39)) 42 #[.int .i64 10, .int .i64 0, .int .i64 0, .int .i64 0]
  rw [World.size_alloc] at hbr
  have hbo1 := hbo.alloc (.cells #[.int .i64 0, .int .i64 0, .int .i64 0, .int .i64 0] 42)
  have o7 := hbo1.cell 7
  simp only [List.getElem?_toArray, List.getElem?_cons_zero, List.getElem?_cons_succ] at o7
  clear h hcl hbo hbo1
  go_enter Tryz.func55, Tryz.ntmps55
  go_wp2_with fail
  (with_reducible refine (HCL.out _ (((Fr.refl _ _).alloc _).alloc _)).mono ?_)
  rintro e w0 ⟨rfl, rfl⟩
  clear HCL o7
  have d0 := hbr.cell 0
  have d1 := hbr.cell 1
  have d2 := hbr.cell 2
  have d3 := hbr.cell 3
  simp only [List.getElem?_toArray, List.getElem?_cons_zero, List.getElem?_cons_succ] at d0 d1 d2 d3
  clear hbr
  go_wp2
  refine bodyPost_ret (v := .agg #[.int .i64 10, .int .i64 0, .int .i64 0, .int .i64 0]) (by simp [results, Tryz.results55, go_sem, d0, d1, d2, d3]) rfl ?_
  exact ⟨rfl, HH.out.no (((Fr.refl _ _).alloc _).alloc _), ((Fr.refl _ _).alloc _).alloc _⟩
set_option maxRecDepth 100000 in
set_option maxHeartbeats 2000000 in
theorem bask_any (q : Pl) (b : Bk) (o : Od) (v : Value) (w : World) (h : BkS w q b) (ho : o.ok) (hk : o.kd = 7) :
    Calls Tryz.prog 56 #[.pointer (some ⟨q.p, 0, none⟩), o.val v] w (DidB q (effR b o) (effB b o) w) := by
  have eB : effB b o = b := by unfold effB; rw [if_neg (show ¬ o.kd = 1 by omega), if_neg (show ¬ o.kd = 2 by omega), if_neg (show ¬ o.kd = 3 by omega), if_neg (show ¬ o.kd = 4 by omega), if_neg (show ¬ o.kd = 5 by omega), if_neg (show ¬ o.kd = 6 by omega)]
  have eR : effR b o = aboutR b.S o.an 0 := by unfold effR; rw [if_neg (show ¬ o.kd = 1 by omega), if_neg (show ¬ o.kd = 2 by omega), if_neg (show ¬ o.kd = 3 by omega), if_neg (show ¬ o.kd = 4 by omega), if_neg (show ¬ o.kd = 5 by omega), if_neg (show ¬ o.kd = 6 by omega)]
  rw [eB, eR]
  obtain ⟨-, -, -, hac, -⟩ := ho
  clear eB eR hk
  obtain ⟨ocl, osq, okd, oac, ope, osm, olg, opr, ohd, ont⟩ := o
  unfold Od.val Od.cs Od.an at *
  simp only at hac ⊢
  obtain ⟨re, rh, rs, rn, hR⟩ : ∃ a b' c d, aboutR b.S oac.data.toList 0 = ⟨a, b', c, d⟩ := ⟨_, _, _, _, rfl⟩
  have HAB : Hid (∀ W, Fr No w W → Calls Tryz.prog 85 #[.pointer (some ⟨q.p, 0, none⟩), .string oac, .int .i64 0] W fun e w' => e = .returned (.agg #[.int .i64 re, .int .i64 rh, .int .i64 rs, .int .i64 rn]) ∧ BkS w' q b ∧ Fr (At1 q.m) W w') := fun W hW => by
    have hx := about_any q b oac 0 W (h.no hW) hac
    rw [hR] at hx
    exact hx
  rw [hR]
  have HH := Lib.hid h
  have hml := h.ch.2.lt
  have hbo := Blk.new w 39 #[.int .i64 ocl, .int .i64 osq, .int .i64 okd, .string oac, .string ope, .int .i64 osm, v, .int .i64 opr, .int .i64 ohd, .string ont]
  have hbr := Blk.new (w.alloc (.cells #[.int .i64 ocl, .int .i64 osq, .int .i64 okd, .string oac, .string ope, .int .i64 osm, v, .int .i64 opr, .int .i64 ohd, .string ont] 39)) 42 #[.int .i64 0, .int .i64 0, .int .i64 0, .int .i64 0]
  rw [World.size_alloc] at hbr
  have hbo1 := hbo.alloc (.cells #[.int .i64 0, .int .i64 0, .int .i64 0, .int .i64 0] 42)
  have hf1 : Fr No w ((w.alloc (.cells #[.int .i64 ocl, .int .i64 osq, .int .i64 okd, .string oac, .string ope, .int .i64 osm, v, .int .i64 opr, .int .i64 ohd, .string ont] 39)).alloc (.cells #[.int .i64 0, .int .i64 0, .int .i64 0, .int .i64 0] 42)) := ((Fr.refl _ _).alloc _).alloc _
  have o3 := hbo1.cell 3
  simp only [List.getElem?_toArray, List.getElem?_cons_zero, List.getElem?_cons_succ] at o3
  clear h hbo hbo1 hac hR
  go_enter Tryz.func56, Tryz.ntmps56
  go_wp2_with fail
  (with_reducible refine (HAB.out _ (((Fr.refl _ _).alloc _).alloc _)).mono ?_)
  generalize ((w.alloc (.cells #[.int .i64 ocl, .int .i64 osq, .int .i64 okd, .string oac, .string ope, .int .i64 osm, v, .int .i64 opr, .int .i64 ohd, .string ont] 39)).alloc (.cells #[.int .i64 0, .int .i64 0, .int .i64 0, .int .i64 0] 42)) = w1 at *
  rintro e u2 ⟨rfl, hb2, hg⟩
  have hr2 := hbr.fr hg (fun e => by have : w.heap.size + 1 = q.m := e; omega)
  have hd := blk_set4 hr2 (.int .i64 re) (.int .i64 rh) (.int .i64 rs) (.int .i64 rn)
  have HD := Lib.hid (did_of HH.out (Nat.le_succ _) hf1 (hg.mono fun _ _ h => .inl h) hb2 (fr_set4 u2 (w.heap.size + 1) (.int .i64 re) (.int .i64 rh) (.int .i64 rs) (.int .i64 rn)))
  have HDD := Lib.hid hd
  have c0 := hr2.cell 0
  have c1 := hr2.cell 1
  have c2 := hr2.cell 2
  have c3 := hr2.cell 3
  have f0 := hr2.frozen 0
  have f1 := hr2.frozen 1
  have f2 := hr2.frozen 2
  have f3 := hr2.frozen 3
  simp only [List.getElem?_toArray, List.getElem?_cons_zero, List.getElem?_cons_succ] at c0 c1 c2 c3
  clear HAB o3 hbr hf1 hg hr2 hb2 hd
  go_wp2
  have hd := HDD.out
  have d0 := hd.cell 0
  have d1 := hd.cell 1
  have d2 := hd.cell 2
  have d3 := hd.cell 3
  simp only [List.getElem?_toArray, List.getElem?_cons_zero, List.getElem?_cons_succ] at d0 d1 d2 d3
  refine bodyPost_ret (v := .agg #[.int .i64 re, .int .i64 rh, .int .i64 rs, .int .i64 rn]) (by simp [results, Tryz.results56, go_sem, d0, d1, d2, d3]) rfl ?_
  exact ⟨rfl, HD.out⟩
set_option maxRecDepth 100000 in
set_option maxHeartbeats 2000000 in
theorem bclose_any (q : Pl) (b : Bk) (o : Od) (v : Value) (w : World) (h : BkS w q b) (ho : o.ok) (hr : rightO o = true) (hk : o.kd = 6) (hcl : ¬ o.per ≤ b.cl) :
    Calls Tryz.prog 55 #[.pointer (some ⟨q.p, 0, none⟩), o.val v] w (DidB q (effR b o) (effB b o) w) := by
  have hI := eff_inv h.inv ho hr
  have eB : effB b o = ⟨b.S, b.H, o.per⟩ := by unfold effB; rw [if_neg (show ¬ o.kd = 1 by omega), if_neg (show ¬ o.kd = 2 by omega), if_neg (show ¬ o.kd = 3 by omega), if_neg (show ¬ o.kd = 4 by omega), if_neg (show ¬ o.kd = 5 by omega), if_pos hk, if_neg hcl]
  have eR : effR b o = ⟨0, 0, 0, o.per⟩ := by unfold effR; rw [if_neg (show ¬ o.kd = 1 by omega), if_neg (show ¬ o.kd = 2 by omega), if_neg (show ¬ o.kd = 3 by omega), if_neg (show ¬ o.kd = 4 by omega), if_neg (show ¬ o.kd = 5 by omega), if_pos hk, if_neg hcl]
  rw [eB] at hI
  rw [eB, eR]
  clear eB eR hk hr ho
  obtain ⟨ocl, osq, okd, oac, ope, osm, olg, opr, ohd, ont⟩ := o
  unfold Od.val Od.cs at *
  simp only at hcl hI ⊢
  have HH := Lib.hid h
  have HI := Lib.hid hI
  have HCL : Hid (∀ W, Fr No w W → Calls Tryz.prog 87 #[.pointer (some ⟨q.p, 0, none⟩), .int .i64 opr] W fun e w' => e = .returned (.bool false) ∧ W = w') := fun W hW => by
    have hx := isClosed_any q b opr W (h.no hW)
    rw [decide_eq_false hcl] at hx
    exact hx
  have hbo := Blk.new w 39 #[.int .i64 ocl, .int .i64 osq, .int .i64 okd, .string oac, .string ope, .int .i64 osm, v, .int .i64 opr, .int .i64 ohd, .string ont]
  have hbr := Blk.new (w.alloc (.cells #[.int .i64 ocl, .int .i64 osq, .int .i64 okd, .string oac, .string ope, .int .i64 osm, v, .int .i64 opr, .int .i64 ohd, .string ont] 39)) 42 #[.int .i64 0, .int .i64 0, .int .i64 0, .int .i64 0]
  rw [World.size_alloc] at hbr
  have hbo1 := hbo.alloc (.cells #[.int .i64 0, .int .i64 0, .int .i64 0, .int .i64 0] 42)
  have hf1 : Fr No w ((w.alloc (.cells #[.int .i64 ocl, .int .i64 osq, .int .i64 okd, .string oac, .string ope, .int .i64 osm, v, .int .i64 opr, .int .i64 ohd, .string ont] 39)).alloc (.cells #[.int .i64 0, .int .i64 0, .int .i64 0, .int .i64 0] 42)) := ((Fr.refl _ _).alloc _).alloc _
  have hbk := h.blk.fr hf1 (fun h => h)
  have hpl := h.blk.lt
  clear h hI hcl hbo
  have o7 := hbo1.cell 7
  simp only [List.getElem?_toArray, List.getElem?_cons_zero, List.getElem?_cons_succ] at o7
  go_enter Tryz.func55, Tryz.ntmps55
  go_wp2_with fail
  (with_reducible refine (HCL.out _ (((Fr.refl _ _).alloc _).alloc _)).mono ?_)
  rintro e w0 ⟨rfl, rfl⟩
  generalize ((w.alloc (.cells #[.int .i64 ocl, .int .i64 osq, .int .i64 okd, .string oac, .string ope, .int .i64 osm, v, .int .i64 opr, .int .i64 ohd, .string ont] 39)).alloc (.cells #[.int .i64 0, .int .i64 0, .int .i64 0, .int .i64 0] 42)) = w1 at *
  have b2 := hbk.cell 2
  have fb2 := hbk.frozen 2
  have r0 := hbr.cell 0
  have r1 := hbr.cell 1
  have r2 := hbr.cell 2
  have r3 := hbr.cell 3
  have f0 := hbr.frozen 0
  have f1 := hbr.frozen 1
  have f2 := hbr.frozen 2
  have f3 := hbr.frozen 3
  simp only [List.getElem?_toArray, List.getElem?_cons_zero, List.getElem?_cons_succ] at b2 r0 r1 r2 r3
  have hne : w.heap.size ≠ q.p := by omega
  have hne2 : w.heap.size + 1 ≠ q.p := by omega
  have hA := fr_set w1 q.p 2 (.int .i64 opr)
  have hrA := hbr.fr hA (fun e => hne2 e)
  have hd := blk_set4 hrA (.int .i64 0) (.int .i64 0) (.int .i64 0) (.int .i64 opr)
  have hB := fr_set4 (w1.setCell ⟨q.p, 2, none⟩ (.int .i64 opr)) (w.heap.size + 1) (.int .i64 0) (.int .i64 0) (.int .i64 0) (.int .i64 opr)
  have HBK : Hid (BkS (((((w1.setCell ⟨q.p, 2, none⟩ (.int .i64 opr)).setCell ⟨w.heap.size + 1, 0, none⟩ (.int .i64 0)).setCell ⟨w.heap.size + 1, 1, none⟩ (.int .i64 0)).setCell ⟨w.heap.size + 1, 2, none⟩ (.int .i64 0)).setCell ⟨w.heap.size + 1, 3, none⟩ (.int .i64 opr)) q ⟨b.S, b.H, opr⟩ ∧ Fr q.wr w (((((w1.setCell ⟨q.p, 2, none⟩ (.int .i64 opr)).setCell ⟨w.heap.size + 1, 0, none⟩ (.int .i64 0)).setCell ⟨w.heap.size + 1, 1, none⟩ (.int .i64 0)).setCell ⟨w.heap.size + 1, 2, none⟩ (.int .i64 0)).setCell ⟨w.heap.size + 1, 3, none⟩ (.int .i64 opr))) := by
    have h1 := HH.out.no hf1
    have hA1 : BkS (w1.setCell ⟨q.p, 2, none⟩ (.int .i64 opr)) q ⟨b.S, b.H, opr⟩ :=
      ⟨h1.blk.set_ 2 (.int .i64 opr), h1.ch.fr hA (fun e => Blk.ne_ h1.ch.1 h1.blk (by decide) e) (fun e => h1.mp.1 e), h1.hd.fr hA (fun e => Blk.ne_ h1.hd.1 h1.blk (by decide) e) (fun e => h1.mp.2 e), h1.ne, HI.out⟩
    refine ⟨hA1.fr hB fun i hi e => ?_, ((hf1.mono (T := q.wr) fun _ _ h => False.elim h).trans (hA.mono fun _ _ h => .inl h)).trans' hB fun i hi hlt => ?_⟩
    · have := HH.out.lt i hi
      have : i = w.heap.size + 1 := e
      omega
    · have : i = w.heap.size + 1 := hi
      omega
  have HDD := Lib.hid hd
  have o7b := (hbo1.fr hA (fun e => hne e)).cell 7
  simp only [List.getElem?_toArray, List.getElem?_cons_zero, List.getElem?_cons_succ] at o7b
  clear hA hB hd hrA hbo1 hbk hbr hf1 HCL
  go_wp2
  have hd := HDD.out
  have d0 := hd.cell 0
  have d1 := hd.cell 1
  have d2 := hd.cell 2
  have d3 := hd.cell 3
  simp only [List.getElem?_toArray, List.getElem?_cons_zero, List.getElem?_cons_succ] at d0 d1 d2 d3
  refine bodyPost_ret (v := .agg #[.int .i64 0, .int .i64 0, .int .i64 0, .int .i64 opr]) (by simp [results, Tryz.results55, go_sem, d0, d1, d2, d3]) rfl ?_
  exact ⟨rfl, HBK.out⟩
end Go.Proofs.YtkkhdjchfhmliaaGreat

namespace Go.Proofs.YtkkhdjchfhmliaaGreat
open Go.RowKit Go.My Go.Maps
set_option linter.unusedSimpArgs false
set_option linter.unusedVariables false
attribute [local go_sem ↓] Go.wp_at_zero Go.wp_at_succ

theorem keep_set4 {S : Nat → Prop} {w1 u : World} {g : Nat} {a b c d : Value} (h : Fr S w1 u) (hg : w1.heap.size ≤ g) : Fr S w1 ((((u.setCell ⟨g, 0, none⟩ a).setCell ⟨g, 1, none⟩ b).setCell ⟨g, 2, none⟩ c).setCell ⟨g, 3, none⟩ d) :=
  h.trans' (fr_set4 u g a b c d) fun i hi hlt => by
    have : i = g := hi
    omega
theorem did_tail {q : Pl} {b b' : Bk} {w u V W : World} {g r : Nat} (hq : BkS w q b) (h : BkS u q b' ∧ Fr q.wr w u) (hB : Fr (At1 g) u V) (hC : Fr (At1 r) V W) (hg : w.heap.size ≤ g) (hr : w.heap.size ≤ r) : BkS W q b' ∧ Fr q.wr w W := by
  refine ⟨(h.1.fr hB fun i hi e => ?_).fr hC fun i hi e => ?_, (h.2.trans' hB fun i hi hlt => ?_).trans' hC fun i hi hlt => ?_⟩
  · have := hq.lt i hi
    have : i = g := e
    omega
  · have := hq.lt i hi
    have : i = r := e
    omega
  · have : i = g := hi
    omega
  · have : i = r := hi
    omega
set_option maxRecDepth 100000 in
set_option maxHeartbeats 2000000 in
theorem bhold_any (q : Pl) (b : Bk) (o : Od) (v : Value) (w : World) (h : BkS w q b) (ho : o.ok) (hr : rightO o = true) (hk : o.kd = 3) :
    Calls Tryz.prog 52 #[.pointer (some ⟨q.p, 0, none⟩), o.val v] w (DidB q (effR b o) (effB b o) w) := by
  have hI := eff_inv h.inv ho hr
  have eB : effB b o = ⟨putSS b.S b.H (numO o) o.an o.sum, putHH b.S b.H (numO o) o.an o.sum, b.cl⟩ := by unfold effB; rw [if_neg (show ¬ o.kd = 1 by omega), if_neg (show ¬ o.kd = 2 by omega), if_pos hk]
  have eR : effR b o = numR (aboutR (putSS b.S b.H (numO o) o.an o.sum) o.an (putE b.S b.H (numO o) o.an o.sum)) (numO o) := by unfold effR; rw [if_neg (show ¬ o.kd = 1 by omega), if_neg (show ¬ o.kd = 2 by omega), if_pos hk]
  rw [eB] at hI
  rw [eB, eR]
  obtain ⟨-, hid, -, -⟩ := right_kd hr
  have hnum := numO_eq hid
  obtain ⟨-, -, -, hac, hpe, hsm, hpr, hhd, -⟩ := ho
  clear eB eR hr hk
  have HNM : Hid (∀ W, Calls Tryz.prog 89 #[.agg #[.int .i64 o.cl, .int .i64 o.sq]] W fun e w' => e = .returned (.int .i64 (numO o)) ∧ Fr No W w') := fun W => by
    rw [hnum]
    exact number_any _ _ ⟨hid.1, hid.2.1⟩ hid.2.2 W
  have hni : In64 (numO o) := by rw [hnum]; unfold In64; omega
  clear hnum hid
  generalize numO o = num at *
  obtain ⟨ocl, osq, okd, oac, ope, osm, olg, opr, ohd, ont⟩ := o
  unfold Od.val Od.cs Od.an at *
  simp only at hac hpe hsm hpr hhd hI HNM ⊢
  have HH := Lib.hid h
  have HI := Lib.hid hI
  have HO : Hid (∀ W, Fr No w W → Calls Tryz.prog 90 #[.pointer (some ⟨q.h, 0, none⟩), .pointer (some ⟨q.c, 0, none⟩), .agg #[.int .i64 num, .string oac, .int .i64 osm]] W fun e w' => e = .returned (.int .i64 (putE b.S b.H num oac.data.toList osm)) ∧ BkS w' q ⟨putSS b.S b.H num oac.data.toList osm, putHH b.S b.H num oac.data.toList osm, b.cl⟩ ∧ Fr (At2 q.m q.k) W w') := fun W hW =>
    (put_any q.c q.m q.h q.k b.S b.H oac num osm W (h.ch.no hW) h.inv.st.kp.inv (h.hd.no hW) (by have := h.inv.st.len; omega) h.ne hac hni hsm).mono fun e w' hx => ⟨hx.ret, (h.no hW).both hx hI, hx.fr⟩
  generalize putE b.S b.H num oac.data.toList osm = E at *
  generalize putSS b.S b.H num oac.data.toList osm = T at *
  generalize putHH b.S b.H num oac.data.toList osm = T2 at *
  obtain ⟨re, rh, rs, rn, hR⟩ : ∃ a b c d, aboutR T oac.data.toList E = ⟨a, b, c, d⟩ := ⟨_, _, _, _, rfl⟩
  have HAB : Hid (∀ W, BkS W q ⟨T, T2, b.cl⟩ → Calls Tryz.prog 85 #[.pointer (some ⟨q.p, 0, none⟩), .string oac, .int .i64 E] W fun e w' => e = .returned (.agg #[.int .i64 re, .int .i64 rh, .int .i64 rs, .int .i64 rn]) ∧ BkS w' q ⟨T, T2, b.cl⟩ ∧ Fr (At2 q.m q.k) W w') := fun W hW => by
    have hx := about_any q ⟨T, T2, b.cl⟩ oac E W hW hac
    rw [hR] at hx
    exact hx.mono fun e w' h => ⟨h.1, h.2.1, h.2.2.mono fun _ _ h => .inl h⟩
  rw [hR]
  have hfar : ∀ g, w.heap.size ≤ g → ¬ At2 q.m q.k g := fun g hg e => Pl.far h hg (by rcases e with e | e; exact .inr (.inl e); exact .inr (.inr e))
  have hbk := h.blk
  have hbo := Blk.new w 39 #[.int .i64 ocl, .int .i64 osq, .int .i64 okd, .string oac, .string ope, .int .i64 osm, v, .int .i64 opr, .int .i64 ohd, .string ont]
  have hbr := Blk.new (w.alloc (.cells #[.int .i64 ocl, .int .i64 osq, .int .i64 okd, .string oac, .string ope, .int .i64 osm, v, .int .i64 opr, .int .i64 ohd, .string ont] 39)) 42 #[.int .i64 0, .int .i64 0, .int .i64 0, .int .i64 0]
  rw [World.size_alloc] at hbr
  have hbo1 := hbo.alloc (.cells #[.int .i64 0, .int .i64 0, .int .i64 0, .int .i64 0] 42)
  have hf1 : Fr No w ((w.alloc (.cells #[.int .i64 ocl, .int .i64 osq, .int .i64 okd, .string oac, .string ope, .int .i64 osm, v, .int .i64 opr, .int .i64 ohd, .string ont] 39)).alloc (.cells #[.int .i64 0, .int .i64 0, .int .i64 0, .int .i64 0] 42)) := ((Fr.refl _ _).alloc _).alloc _
  have hmp := h.mp
  have hlt : q.p < w.heap.size := h.blk.lt
  have o0 := hbo1.cell 0
  have o1 := hbo1.cell 1
  simp only [List.getElem?_toArray, List.getElem?_cons_zero, List.getElem?_cons_succ] at o0 o1
  clear h hI hR hac hsm hpe hpr hhd hbo hni
  go_enter Tryz.func52, Tryz.ntmps52
  go_wp2_with fail
  (with_reducible refine (HNM.out _).mono ?_)
  rintro e w1 ⟨rfl, hg0⟩
  have hf1 := hf1.trans hg0
  have hbo1 := hbo1.fr hg0 (fun h => h)
  have hbr := hbr.fr hg0 (fun h => h)
  clear hg0 HNM o0 o1
  go_upto_region 2 with (fail)
  have hsz : w.heap.size + 1 < w1.heap.size := hbr.lt
  have HF1 := Lib.hid hf1
  have HBR := Lib.hid hbr
  have HX : Hid (∀ W, Fr (At2 q.m q.k) w1 W → Fr (At2 q.m q.k) w1 W ∧ W.cell? ⟨q.p, 0, none⟩ = some (.pointer (some ⟨q.c, 0, none⟩)) ∧ W.cell? ⟨q.p, 1, none⟩ = some (.pointer (some ⟨q.h, 0, none⟩)) ∧ W.cell? ⟨w.heap.size, 3, none⟩ = some (.string oac) ∧ W.cell? ⟨w.heap.size, 5, none⟩ = some (.int .i64 osm)) := fun W hW => by
    have h1 := hbo1.fr hW (hfar _ (Nat.le_refl _))
    have h2 := (hbk.fr hf1 (fun h => h)).fr hW (fun e => by rcases e with e | e; exact hmp.1 e.symm; exact hmp.2 e.symm)
    exact ⟨hW, h2.cell 0, h2.cell 1, h1.cell 3, h1.cell 5⟩
  have HFAR := Lib.hid hfar
  have hw1 : Fr (At2 q.m q.k) w1 w1.drew := (Fr.refl _ w1).drew
  clear hf1 hbr hbo1 hbk hfar hmp hlt
  go_region_held3 (fun W => Fr (At2 q.m q.k) w1 W ∧ W.cell? ⟨q.p, 0, none⟩ = some (.pointer (some ⟨q.c, 0, none⟩)) ∧ W.cell? ⟨q.p, 1, none⟩ = some (.pointer (some ⟨q.h, 0, none⟩)) ∧ W.cell? ⟨w.heap.size, 3, none⟩ = some (.string oac) ∧ W.cell? ⟨w.heap.size, 5, none⟩ = some (.int .i64 osm))
    (first
      | (refine HX.out _ ?_; with_reducible assumption)
      | (refine HX.out _ (Fr.alloc ?_ _); with_reducible assumption)
      | (refine HX.out _ (Fr.drew (Fr.alloc ?_ _)); with_reducible first | assumption | exact Fr.refl _ w1)
      | (refine HX.out _ (keep_set4 (by with_reducible assumption) (by first | with_reducible assumption | omega))))
    (first
      | (go_at_call 90; (with_reducible refine (HO.out _ ((HF1.out.alloc _).drew)).mono ?_); rintro e u1 ⟨rfl, hb1, hg⟩; have ka1 : Fr (At2 q.m q.k) w1 u1 := Fr.trans ((Fr.refl _ w1).alloc _).drew hg; have hz1 := Blk.fr (Blk.new w1 42 #[.int .i64 0, .int .i64 0, .int .i64 0, .int .i64 0]).drew hg (HFAR.out _ (by omega)); clear hg)
      | (go_at_call 90; (with_reducible refine (HO.out _ HF1.out.drew).mono ?_); rintro e u1 ⟨rfl, hb1, hg⟩; have ka1 : Fr (At2 q.m q.k) w1 u1 := Fr.trans (Fr.refl _ w1).drew hg; clear hg)
      | (go_at_call 85; (with_reducible refine (HAB.out _ hb1).mono ?_); rintro e u2 ⟨rfl, hb2, hg⟩; have ka2 : Fr (At2 q.m q.k) w1 u2 := Fr.trans ka1 hg; have hz2 := Blk.fr hz1 hg (HFAR.out _ (by omega)); clear hg; have y0 := hz2.cell 0; have y1 := hz2.cell 1; have y2 := hz2.cell 2; have y3 := hz2.cell 3; have z0 := hz2.frozen 0; have z1 := hz2.frozen 1; have z2 := hz2.frozen 2; have z3 := hz2.frozen 3; simp only [List.getElem?_toArray, List.getElem?_cons_zero, List.getElem?_cons_succ] at y0 y1 y2 y3; have hzl := hz2.lt)
      | (go_at_call 85; (with_reducible refine (HAB.out _ (hb1.no ((Fr.refl _ _).alloc _))).mono ?_); rintro e u2 ⟨rfl, hb2, hg⟩; have ka2 : Fr (At2 q.m q.k) w1 u2 := Fr.trans (ka1.alloc _) hg; have hu1 := ka1.size; have hz2 := Blk.fr (Blk.new u1 42 #[.int .i64 0, .int .i64 0, .int .i64 0, .int .i64 0]) hg (HFAR.out _ (by omega)); clear hg; have y0 := hz2.cell 0; have y1 := hz2.cell 1; have y2 := hz2.cell 2; have y3 := hz2.cell 3; have z0 := hz2.frozen 0; have z1 := hz2.frozen 1; have z2 := hz2.frozen 2; have z3 := hz2.frozen 3; simp only [List.getElem?_toArray, List.getElem?_cons_zero, List.getElem?_cons_succ] at y0 y1 y2 y3; have hzl := hz2.lt)
      | (go_at_call 85; (with_reducible refine (HAB.out _ hb1).mono ?_); rintro e u2 ⟨rfl, hb2, hg⟩; have ka2 : Fr (At2 q.m q.k) w1 u2 := Fr.trans ka1 hg; clear hg))
  · have hx : Blk (u2.alloc (.cells #[.int .i64 re, .int .i64 rh, .int .i64 rs, .int .i64 rn] 42)) u2.heap.size 42 #[.int .i64 re, .int .i64 rh, .int .i64 rs, .int .i64 rn] := Blk.new u2 42 _
    have hr := (HBR.out.fr ka2 (HFAR.out _ (by omega))).alloc (.cells #[.int .i64 re, .int .i64 rh, .int .i64 rs, .int .i64 rn] 42)
    have hgg : w.heap.size + 1 < u2.heap.size := by have := ka2.size; omega
    have HU := Lib.hid (did_of HH.out (g := u2.heap.size) (by omega) HF1.out ka2 hb2 ((Fr.refl _ u2).alloc (.cells #[.int .i64 re, .int .i64 rh, .int .i64 rs, .int .i64 rn] 42)))
    clear HX HFAR HAB HO hw1 HBR HF1
    generalize u2.alloc (.cells #[.int .i64 re, .int .i64 rh, .int .i64 rs, .int .i64 rn] 42) = u3 at *
    clear ka1 ka2 hb1 hb2
    try clear y0 y1 y2 y3 z0 z1 z2 z3 hz2 hzl
    try clear hz1
    try clear hu1
    generalize u2.heap.size = g at *
    by_cases h0 : re = 0
    · subst h0
      have hB := fr_set u3 g 3 (.int .i64 num)
      have hy := hx.set_ 3 (.int .i64 num)
      have hyr := hr.fr hB (fun e => by have : w.heap.size + 1 = g := e; omega)
      have hd := blk_set4 hyr (.int .i64 0) (.int .i64 rh) (.int .i64 rs) (.int .i64 num)
      have hC := fr_set4 (u3.setCell ⟨g, 3, none⟩ (.int .i64 num)) (w.heap.size + 1) (.int .i64 0) (.int .i64 rh) (.int .i64 rs) (.int .i64 num)
      have HD := Lib.hid (did_tail HH.out HU.out hB hC (by omega) (by omega))
      have HDD := Lib.hid hd
      have x0 := hx.cell 0
      have x3 := hx.cell 3
      have g3 := hx.frozen 3
      have y0 := hy.cell 0
      have y1 := hy.cell 1
      have y2 := hy.cell 2
      have y3 := hy.cell 3
      have r0 := hr.cell 0
      have r1 := hr.cell 1
      have r2 := hr.cell 2
      have r3 := hr.cell 3
      have f0 := hr.frozen 0
      have f1 := hr.frozen 1
      have f2 := hr.frozen 2
      have f3 := hr.frozen 3
      have hne : ¬ g = w.heap.size + 1 := by omega
      have hne' : ¬ w.heap.size + 1 = g := by omega
      simp only [List.getElem?_toArray, List.getElem?_cons_zero, List.getElem?_cons_succ, List.setIfInBounds_toArray, List.set_cons_succ, List.set_cons_zero] at x0 x3 y0 y1 y2 y3 r0 r1 r2 r3
      clear hx hr hy hyr hd hB hC HU
      go_wp2
      have hd := HDD.out
      have d0 := hd.cell 0
      have d1 := hd.cell 1
      have d2 := hd.cell 2
      have d3 := hd.cell 3
      simp only [List.getElem?_toArray, List.getElem?_cons_zero, List.getElem?_cons_succ] at d0 d1 d2 d3
      refine bodyPost_ret (v := .agg #[.int .i64 0, .int .i64 rh, .int .i64 rs, .int .i64 num]) (by simp [results, Tryz.results52, go_sem, d0, d1, d2, d3]) rfl ?_
      exact ⟨by unfold numR; rw [if_pos rfl]; rfl, HD.out⟩
    · have hz : (re == 0) = false := by simpa using h0
      have hC := fr_set4 u3 (w.heap.size + 1) (.int .i64 re) (.int .i64 rh) (.int .i64 rs) (.int .i64 rn)
      have hd := blk_set4 hr (.int .i64 re) (.int .i64 rh) (.int .i64 rs) (.int .i64 rn)
      have HD := Lib.hid (did_tail HH.out HU.out (Fr.refl (At1 g) u3) hC (by omega) (by omega))
      have HDD := Lib.hid hd
      have H0 := Lib.hid h0
      have x0 := hx.cell 0
      have x1 := hx.cell 1
      have x2 := hx.cell 2
      have x3 := hx.cell 3
      have r0 := hr.cell 0
      have r1 := hr.cell 1
      have r2 := hr.cell 2
      have r3 := hr.cell 3
      have f0 := hr.frozen 0
      have f1 := hr.frozen 1
      have f2 := hr.frozen 2
      have f3 := hr.frozen 3
      have hne : ¬ g = w.heap.size + 1 := by omega
      have hne' : ¬ w.heap.size + 1 = g := by omega
      simp only [List.getElem?_toArray, List.getElem?_cons_zero, List.getElem?_cons_succ] at x0 x1 x2 x3 r0 r1 r2 r3
      clear hx hr hd hC HU h0
      go_wp2
      have hd := HDD.out
      have d0 := hd.cell 0
      have d1 := hd.cell 1
      have d2 := hd.cell 2
      have d3 := hd.cell 3
      simp only [List.getElem?_toArray, List.getElem?_cons_zero, List.getElem?_cons_succ] at d0 d1 d2 d3
      refine bodyPost_ret (v := .agg #[.int .i64 re, .int .i64 rh, .int .i64 rs, .int .i64 rn]) (by simp [results, Tryz.results52, go_sem, d0, d1, d2, d3]) rfl ?_
      exact ⟨by unfold numR; rw [if_neg H0.out]; rfl, HD.out⟩
  · have hx : Blk ((((u2.setCell ⟨u1.heap.size, 0, none⟩ (.int .i64 re)).setCell ⟨u1.heap.size, 1, none⟩ (.int .i64 rh)).setCell ⟨u1.heap.size, 2, none⟩ (.int .i64 rs)).setCell ⟨u1.heap.size, 3, none⟩ (.int .i64 rn)) u1.heap.size 42 #[.int .i64 re, .int .i64 rh, .int .i64 rs, .int .i64 rn] := blk_set4 hz2 (.int .i64 re) (.int .i64 rh) (.int .i64 rs) (.int .i64 rn)
    have hr := (HBR.out.fr ka2 (HFAR.out _ (by omega))).fr (fr_set4 u2 (u1.heap.size) (.int .i64 re) (.int .i64 rh) (.int .i64 rs) (.int .i64 rn)) (fun e => by have : w.heap.size + 1 = u1.heap.size := e; omega)
    have hgg : w.heap.size + 1 < u1.heap.size := by omega
    have HU := Lib.hid (did_of HH.out (g := u1.heap.size) (by omega) HF1.out ka2 hb2 (fr_set4 u2 (u1.heap.size) (.int .i64 re) (.int .i64 rh) (.int .i64 rs) (.int .i64 rn)))
    clear HX HFAR HAB HO hw1 HBR HF1
    generalize (((u2.setCell ⟨u1.heap.size, 0, none⟩ (.int .i64 re)).setCell ⟨u1.heap.size, 1, none⟩ (.int .i64 rh)).setCell ⟨u1.heap.size, 2, none⟩ (.int .i64 rs)).setCell ⟨u1.heap.size, 3, none⟩ (.int .i64 rn) = u3 at *
    clear ka1 ka2 hb1 hb2
    try clear y0 y1 y2 y3 z0 z1 z2 z3 hz2 hzl
    try clear hz1
    try clear hu1
    generalize u1.heap.size = g at *
    by_cases h0 : re = 0
    · subst h0
      have hB := fr_set u3 g 3 (.int .i64 num)
      have hy := hx.set_ 3 (.int .i64 num)
      have hyr := hr.fr hB (fun e => by have : w.heap.size + 1 = g := e; omega)
      have hd := blk_set4 hyr (.int .i64 0) (.int .i64 rh) (.int .i64 rs) (.int .i64 num)
      have hC := fr_set4 (u3.setCell ⟨g, 3, none⟩ (.int .i64 num)) (w.heap.size + 1) (.int .i64 0) (.int .i64 rh) (.int .i64 rs) (.int .i64 num)
      have HD := Lib.hid (did_tail HH.out HU.out hB hC (by omega) (by omega))
      have HDD := Lib.hid hd
      have x0 := hx.cell 0
      have x3 := hx.cell 3
      have g3 := hx.frozen 3
      have y0 := hy.cell 0
      have y1 := hy.cell 1
      have y2 := hy.cell 2
      have y3 := hy.cell 3
      have r0 := hr.cell 0
      have r1 := hr.cell 1
      have r2 := hr.cell 2
      have r3 := hr.cell 3
      have f0 := hr.frozen 0
      have f1 := hr.frozen 1
      have f2 := hr.frozen 2
      have f3 := hr.frozen 3
      have hne : ¬ g = w.heap.size + 1 := by omega
      have hne' : ¬ w.heap.size + 1 = g := by omega
      simp only [List.getElem?_toArray, List.getElem?_cons_zero, List.getElem?_cons_succ, List.setIfInBounds_toArray, List.set_cons_succ, List.set_cons_zero] at x0 x3 y0 y1 y2 y3 r0 r1 r2 r3
      clear hx hr hy hyr hd hB hC HU
      go_wp2
      have hd := HDD.out
      have d0 := hd.cell 0
      have d1 := hd.cell 1
      have d2 := hd.cell 2
      have d3 := hd.cell 3
      simp only [List.getElem?_toArray, List.getElem?_cons_zero, List.getElem?_cons_succ] at d0 d1 d2 d3
      refine bodyPost_ret (v := .agg #[.int .i64 0, .int .i64 rh, .int .i64 rs, .int .i64 num]) (by simp [results, Tryz.results52, go_sem, d0, d1, d2, d3]) rfl ?_
      exact ⟨by unfold numR; rw [if_pos rfl]; rfl, HD.out⟩
    · have hz : (re == 0) = false := by simpa using h0
      have hC := fr_set4 u3 (w.heap.size + 1) (.int .i64 re) (.int .i64 rh) (.int .i64 rs) (.int .i64 rn)
      have hd := blk_set4 hr (.int .i64 re) (.int .i64 rh) (.int .i64 rs) (.int .i64 rn)
      have HD := Lib.hid (did_tail HH.out HU.out (Fr.refl (At1 g) u3) hC (by omega) (by omega))
      have HDD := Lib.hid hd
      have H0 := Lib.hid h0
      have x0 := hx.cell 0
      have x1 := hx.cell 1
      have x2 := hx.cell 2
      have x3 := hx.cell 3
      have r0 := hr.cell 0
      have r1 := hr.cell 1
      have r2 := hr.cell 2
      have r3 := hr.cell 3
      have f0 := hr.frozen 0
      have f1 := hr.frozen 1
      have f2 := hr.frozen 2
      have f3 := hr.frozen 3
      have hne : ¬ g = w.heap.size + 1 := by omega
      have hne' : ¬ w.heap.size + 1 = g := by omega
      simp only [List.getElem?_toArray, List.getElem?_cons_zero, List.getElem?_cons_succ] at x0 x1 x2 x3 r0 r1 r2 r3
      clear hx hr hd hC HU h0
      go_wp2
      have hd := HDD.out
      have d0 := hd.cell 0
      have d1 := hd.cell 1
      have d2 := hd.cell 2
      have d3 := hd.cell 3
      simp only [List.getElem?_toArray, List.getElem?_cons_zero, List.getElem?_cons_succ] at d0 d1 d2 d3
      refine bodyPost_ret (v := .agg #[.int .i64 re, .int .i64 rh, .int .i64 rs, .int .i64 rn]) (by simp [results, Tryz.results52, go_sem, d0, d1, d2, d3]) rfl ?_
      exact ⟨by unfold numR; rw [if_neg H0.out]; rfl, HD.out⟩
  · have hx : Blk ((((u2.setCell ⟨w1.heap.size, 0, none⟩ (.int .i64 re)).setCell ⟨w1.heap.size, 1, none⟩ (.int .i64 rh)).setCell ⟨w1.heap.size, 2, none⟩ (.int .i64 rs)).setCell ⟨w1.heap.size, 3, none⟩ (.int .i64 rn)) w1.heap.size 42 #[.int .i64 re, .int .i64 rh, .int .i64 rs, .int .i64 rn] := blk_set4 hz2 (.int .i64 re) (.int .i64 rh) (.int .i64 rs) (.int .i64 rn)
    have hr := (HBR.out.fr ka2 (HFAR.out _ (by omega))).fr (fr_set4 u2 (w1.heap.size) (.int .i64 re) (.int .i64 rh) (.int .i64 rs) (.int .i64 rn)) (fun e => by have : w.heap.size + 1 = w1.heap.size := e; omega)
    have hgg : w.heap.size + 1 < w1.heap.size := hsz
    have HU := Lib.hid (did_of HH.out (g := w1.heap.size) (by omega) HF1.out ka2 hb2 (fr_set4 u2 (w1.heap.size) (.int .i64 re) (.int .i64 rh) (.int .i64 rs) (.int .i64 rn)))
    clear HX HFAR HAB HO hw1 HBR HF1
    generalize (((u2.setCell ⟨w1.heap.size, 0, none⟩ (.int .i64 re)).setCell ⟨w1.heap.size, 1, none⟩ (.int .i64 rh)).setCell ⟨w1.heap.size, 2, none⟩ (.int .i64 rs)).setCell ⟨w1.heap.size, 3, none⟩ (.int .i64 rn) = u3 at *
    clear ka1 ka2 hb1 hb2
    try clear y0 y1 y2 y3 z0 z1 z2 z3 hz2 hzl
    try clear hz1
    try clear hu1
    generalize w1.heap.size = g at *
    by_cases h0 : re = 0
    · subst h0
      have hB := fr_set u3 g 3 (.int .i64 num)
      have hy := hx.set_ 3 (.int .i64 num)
      have hyr := hr.fr hB (fun e => by have : w.heap.size + 1 = g := e; omega)
      have hd := blk_set4 hyr (.int .i64 0) (.int .i64 rh) (.int .i64 rs) (.int .i64 num)
      have hC := fr_set4 (u3.setCell ⟨g, 3, none⟩ (.int .i64 num)) (w.heap.size + 1) (.int .i64 0) (.int .i64 rh) (.int .i64 rs) (.int .i64 num)
      have HD := Lib.hid (did_tail HH.out HU.out hB hC (by omega) (by omega))
      have HDD := Lib.hid hd
      have x0 := hx.cell 0
      have x3 := hx.cell 3
      have g3 := hx.frozen 3
      have y0 := hy.cell 0
      have y1 := hy.cell 1
      have y2 := hy.cell 2
      have y3 := hy.cell 3
      have r0 := hr.cell 0
      have r1 := hr.cell 1
      have r2 := hr.cell 2
      have r3 := hr.cell 3
      have f0 := hr.frozen 0
      have f1 := hr.frozen 1
      have f2 := hr.frozen 2
      have f3 := hr.frozen 3
      have hne : ¬ g = w.heap.size + 1 := by omega
      have hne' : ¬ w.heap.size + 1 = g := by omega
      simp only [List.getElem?_toArray, List.getElem?_cons_zero, List.getElem?_cons_succ, List.setIfInBounds_toArray, List.set_cons_succ, List.set_cons_zero] at x0 x3 y0 y1 y2 y3 r0 r1 r2 r3
      clear hx hr hy hyr hd hB hC HU
      go_wp2
      have hd := HDD.out
      have d0 := hd.cell 0
      have d1 := hd.cell 1
      have d2 := hd.cell 2
      have d3 := hd.cell 3
      simp only [List.getElem?_toArray, List.getElem?_cons_zero, List.getElem?_cons_succ] at d0 d1 d2 d3
      refine bodyPost_ret (v := .agg #[.int .i64 0, .int .i64 rh, .int .i64 rs, .int .i64 num]) (by simp [results, Tryz.results52, go_sem, d0, d1, d2, d3]) rfl ?_
      exact ⟨by unfold numR; rw [if_pos rfl]; rfl, HD.out⟩
    · have hz : (re == 0) = false := by simpa using h0
      have hC := fr_set4 u3 (w.heap.size + 1) (.int .i64 re) (.int .i64 rh) (.int .i64 rs) (.int .i64 rn)
      have hd := blk_set4 hr (.int .i64 re) (.int .i64 rh) (.int .i64 rs) (.int .i64 rn)
      have HD := Lib.hid (did_tail HH.out HU.out (Fr.refl (At1 g) u3) hC (by omega) (by omega))
      have HDD := Lib.hid hd
      have H0 := Lib.hid h0
      have x0 := hx.cell 0
      have x1 := hx.cell 1
      have x2 := hx.cell 2
      have x3 := hx.cell 3
      have r0 := hr.cell 0
      have r1 := hr.cell 1
      have r2 := hr.cell 2
      have r3 := hr.cell 3
      have f0 := hr.frozen 0
      have f1 := hr.frozen 1
      have f2 := hr.frozen 2
      have f3 := hr.frozen 3
      have hne : ¬ g = w.heap.size + 1 := by omega
      have hne' : ¬ w.heap.size + 1 = g := by omega
      simp only [List.getElem?_toArray, List.getElem?_cons_zero, List.getElem?_cons_succ] at x0 x1 x2 x3 r0 r1 r2 r3
      clear hx hr hd hC HU h0
      go_wp2
      have hd := HDD.out
      have d0 := hd.cell 0
      have d1 := hd.cell 1
      have d2 := hd.cell 2
      have d3 := hd.cell 3
      simp only [List.getElem?_toArray, List.getElem?_cons_zero, List.getElem?_cons_succ] at d0 d1 d2 d3
      refine bodyPost_ret (v := .agg #[.int .i64 re, .int .i64 rh, .int .i64 rs, .int .i64 rn]) (by simp [results, Tryz.results52, go_sem, d0, d1, d2, d3]) rfl ?_
      exact ⟨by unfold numR; rw [if_neg H0.out]; rfl, HD.out⟩
end Go.Proofs.YtkkhdjchfhmliaaGreat

namespace Go.Proofs.YtkkhdjchfhmliaaGreat
open Go.RowKit Go.My Go.Maps
set_option linter.unusedSimpArgs false
set_option linter.unusedVariables false
attribute [local go_sem ↓] Go.wp_at_zero Go.wp_at_succ

def fnB (f : FuncId) : Value := .func (.func f) #[] #[]
/-- the functions of the kinds -/
def effF (k : Int) : Option Value :=
  if k = 7 then some (fnB 56)
  else if k = 6 then some (fnB 55)
  else if k = 5 then some (fnB 54)
  else if k = 4 then some (fnB 53)
  else if k = 3 then some (fnB 52)
  else if k = 2 then some (fnB 51)
  else if k = 1 then some (fnB 50)
  else none
set_option maxRecDepth 100000 in
set_option maxHeartbeats 1000000 in
theorem effects_any (w : World) : Calls Tryz.prog 35 #[] w fun e w' => ∃ m, e = .returned (.map (some m)) ∧ Tab Tryz.prog 3 w' m 7 effF ∧ Fr No w w' := by
  have HT : Hid (Tab Tryz.prog 3 (w.alloc (.map #[] 0)) w.heap.size 0 (fun _ => none)) := Tab.made w
  have HM : Hid (Fr No w (w.alloc (.map #[] 0))) := (Fr.refl _ _).alloc _
  have hmk := @run_makeMap Tryz.prog
  obtain ⟨u0, hr0, hT0, hf0⟩ := HT.out.put Tryz.underlying3 Tryz.underlying77 (by unfold maxLen; omega) 1 (by unfold In64; omega) (fnB 50)
  obtain ⟨u1, hr1, hT1, hf1⟩ := hT0.put Tryz.underlying3 Tryz.underlying77 (by unfold maxLen; omega) 2 (by unfold In64; omega) (fnB 51)
  obtain ⟨u2, hr2, hT2, hf2⟩ := hT1.put Tryz.underlying3 Tryz.underlying77 (by unfold maxLen; omega) 3 (by unfold In64; omega) (fnB 52)
  obtain ⟨u3, hr3, hT3, hf3⟩ := hT2.put Tryz.underlying3 Tryz.underlying77 (by unfold maxLen; omega) 4 (by unfold In64; omega) (fnB 53)
  obtain ⟨u4, hr4, hT4, hf4⟩ := hT3.put Tryz.underlying3 Tryz.underlying77 (by unfold maxLen; omega) 5 (by unfold In64; omega) (fnB 54)
  obtain ⟨u5, hr5, hT5, hf5⟩ := hT4.put Tryz.underlying3 Tryz.underlying77 (by unfold maxLen; omega) 6 (by unfold In64; omega) (fnB 55)
  obtain ⟨u6, hr6, hT6, hf6⟩ := hT5.put Tryz.underlying3 Tryz.underlying77 (by unfold maxLen; omega) 7 (by unfold In64; omega) (fnB 56)
  have HF : Hid (Fr No w u6) := HM.out.trans' (((((((hf0.trans hf1).trans hf2).trans hf3).trans hf4).trans hf5).trans hf6)) (fun i hi hlt => by have : i = w.heap.size := hi; omega)
  have HT6 := Lib.hid hT6
  simp only [fnB] at hr0 hr1 hr2 hr3 hr4 hr5 hr6
  clear HT HM hT0 hT1 hT2 hT3 hT4 hT5 hT6 hf0 hf1 hf2 hf3 hf4 hf5 hf6
  go_enter Tryz.func35, Tryz.ntmps35
  go_wp2
  go_ret
  exact ⟨_, rfl, HT6.out, HF.out⟩
theorem right_legs {o : Od} (h : rightO o = true) (hk : o.kd = 2) : rightB o.legs = true := by
  unfold rightO at h
  simp only [Bool.and_eq_true, decide_eq_true_eq] at h
  obtain ⟨-, -, -, -, -, -, hl, -⟩ := h
  unfold legsB at hl
  rw [if_pos hk] at hl
  exact hl
/-- what Do does of a kind that is right -/
def DoesK (q : Pl) (b : Bk) (o : Od) (v : Value) (f : FuncId) (w : World) : Prop := ∀ W, Fr No w W → Calls Tryz.prog f #[.pointer (some ⟨q.p, 0, none⟩), o.val v] W (DidB q (effR b o) (effB b o) W)
theorem does_k (F : Nat → Prop) (q : Pl) (b : Bk) (o : Od) (v : Value) (w : World) (h : BkS w q b) (ho : o.ok) (hv : LgS w F v o.legs) (hF : ∀ k, F k → k < w.heap.size ∧ k ≠ q.m) (hr : rightO o = true) :
    ∃ f, effF o.kd = some (fnB f) ∧ DoesK q b o v f w ∧ (f = 56 ∨ f = 55 ∨ f = 54 ∨ f = 53 ∨ f = 52 ∨ f = 51 ∨ f = 50) := by
  obtain ⟨⟨k1, k7⟩, -⟩ := right_kd hr
  have hk : o.kd = 1 ∨ o.kd = 2 ∨ o.kd = 3 ∨ o.kd = 4 ∨ o.kd = 5 ∨ o.kd = 6 ∨ o.kd = 7 := by omega
  rcases hk with hk | hk | hk | hk | hk | hk | hk
  · exact ⟨_, by rw [hk]; rfl, fun W hW => bopen_any q b o v W (h.no hW) ho hr hk, by simp⟩
  · refine ⟨_, by rw [hk]; rfl, fun W hW => ?_, by simp⟩
    by_cases hc : o.per ≤ b.cl
    · exact bpost_closed q b o v W (h.no hW) hk hc
    · refine bpost_any q b o v W (h.no hW) ho hr hk F (hv.no hW) (fun k hk => ⟨Nat.lt_of_lt_of_le (hF k hk).1 hW.size, (hF k hk).2⟩) ?_ hc
      have := rightB_six (right_legs hr hk)
      omega
  · exact ⟨_, by rw [hk]; rfl, fun W hW => bhold_any q b o v W (h.no hW) ho hr hk, by simp⟩
  · refine ⟨_, by rw [hk]; rfl, fun W hW => ?_, by simp⟩
    by_cases hc : o.per ≤ b.cl
    · exact bcapture_closed q b o v W (h.no hW) hk hc
    · exact bcapture_any q b o v W (h.no hW) ho hr hk hc
  · exact ⟨_, by rw [hk]; rfl, fun W hW => brelease_any q b o v W (h.no hW) ho hr hk, by simp⟩
  · refine ⟨_, by rw [hk]; rfl, fun W hW => ?_, by simp⟩
    by_cases hc : o.per ≤ b.cl
    · exact bclose_closed q b o v W (h.no hW) hk hc
    · exact bclose_any q b o v W (h.no hW) ho hr hk hc
  · exact ⟨_, by rw [hk]; rfl, fun W hW => bask_any q b o v W (h.no hW) ho hk, by simp⟩
theorem kb_ask (args : Array Value) (W : World) : (callFunc 56 args).run Tryz.prog W = .ok (.enter 56 args) W := by kernel_rfl
theorem kb_close (args : Array Value) (W : World) : (callFunc 55 args).run Tryz.prog W = .ok (.enter 55 args) W := by kernel_rfl
theorem kb_release (args : Array Value) (W : World) : (callFunc 54 args).run Tryz.prog W = .ok (.enter 54 args) W := by kernel_rfl
theorem kb_capture (args : Array Value) (W : World) : (callFunc 53 args).run Tryz.prog W = .ok (.enter 53 args) W := by kernel_rfl
theorem kb_hold (args : Array Value) (W : World) : (callFunc 52 args).run Tryz.prog W = .ok (.enter 52 args) W := by kernel_rfl
theorem kb_post (args : Array Value) (W : World) : (callFunc 51 args).run Tryz.prog W = .ok (.enter 51 args) W := by kernel_rfl
theorem kb_open (args : Array Value) (W : World) : (callFunc 50 args).run Tryz.prog W = .ok (.enter 50 args) W := by kernel_rfl
theorem k_of {f : FuncId} (h : f = 56 ∨ f = 55 ∨ f = 54 ∨ f = 53 ∨ f = 52 ∨ f = 51 ∨ f = 50) (args : Array Value) (W : World) : (callFunc f args).run Tryz.prog W = .ok (.enter f args) W := by
  rcases h with rfl | rfl | rfl | rfl | rfl | rfl | rfl
  · exact kb_ask args W
  · exact kb_close args W
  · exact kb_release args W
  · exact kb_capture args W
  · exact kb_hold args W
  · exact kb_post args W
  · exact kb_open args W
theorem doR_ret (b : Bk) (o : Od) (h : rightO o = false) : doR b o = errR 1 ∧ doB b o = b := by
  unfold doR doB
  rw [h]
  exact ⟨rfl, rfl⟩
theorem doR_eff (b : Bk) (o : Od) (h : rightO o = true) : doR b o = effR b o ∧ doB b o = effB b o := by
  unfold doR doB
  rw [h]
  exact ⟨rfl, rfl⟩
/-- what is written of a book, and one block besides -/
def Pl.wrr (q : Pl) (g : Nat) : Nat → Prop := fun i => q.wr i ∨ i = g
theorem zeroF (w : World) : (zeroValue 76).run Tryz.prog w = .ok (.nilFunc) w := by kernel_rfl
set_option maxRecDepth 100000 in
set_option maxHeartbeats 2000000 in
theorem do_any (F : Nat → Prop) (q : Pl) (b : Bk) (o : Od) (v : Value) (w : World) (h : BkS w q b) (ho : o.ok) (hv : LgS w F v o.legs) (hF : ∀ k, F k → k < w.heap.size ∧ k ≠ q.m) :
    Calls Tryz.prog 19 #[.pointer (some ⟨q.p, 0, none⟩), o.val v] w (DidB q (doR b o) (doB b o) w) := by
  have HRT : Hid (∀ W, Fr No w W → Calls Tryz.prog 34 #[o.val v] W fun e w' => e = .returned (.bool (rightO o)) ∧ Fr No W w') := fun W hW => rightO_any F o v W ho (hv.no hW)
  have HH := Lib.hid h
  have hkd := ho.2.2.1
  cases hr : rightO o with
  | false =>
    obtain ⟨e1, e2⟩ := doR_ret b o hr
    rw [e1, e2]
    rw [hr] at HRT
    clear e1 e2 hr h ho hv hF hkd
    obtain ⟨ocl, osq, okd, oac, ope, osm, olg, opr, ohd, ont⟩ := o
    unfold Od.val Od.cs at *
    simp only at HRT ⊢
    have hbo := Blk.new w 39 #[.int .i64 ocl, .int .i64 osq, .int .i64 okd, .string oac, .string ope, .int .i64 osm, v, .int .i64 opr, .int .i64 ohd, .string ont]
    have hbr := Blk.new (w.alloc (.cells #[.int .i64 ocl, .int .i64 osq, .int .i64 okd, .string oac, .string ope, .int .i64 osm, v, .int .i64 opr, .int .i64 ohd, .string ont] 39)) 42 #[.int .i64 0, .int .i64 0, .int .i64 0, .int .i64 0]
    rw [World.size_alloc] at hbr
    have hbo1 := hbo.alloc (.cells #[.int .i64 0, .int .i64 0, .int .i64 0, .int .i64 0] 42)
    have hf1 : Fr No w ((w.alloc (.cells #[.int .i64 ocl, .int .i64 osq, .int .i64 okd, .string oac, .string ope, .int .i64 osm, v, .int .i64 opr, .int .i64 ohd, .string ont] 39)).alloc (.cells #[.int .i64 0, .int .i64 0, .int .i64 0, .int .i64 0] 42)) := ((Fr.refl _ _).alloc _).alloc _
    have o0 := hbo1.cell 0
    have o1 := hbo1.cell 1
    have o2 := hbo1.cell 2
    have o3 := hbo1.cell 3
    have o4 := hbo1.cell 4
    have o5 := hbo1.cell 5
    have o6 := hbo1.cell 6
    have o7 := hbo1.cell 7
    have o8 := hbo1.cell 8
    have o9 := hbo1.cell 9
    simp only [List.getElem?_toArray, List.getElem?_cons_zero, List.getElem?_cons_succ] at o0 o1 o2 o3 o4 o5 o6 o7 o8 o9
    clear hbo hbo1
    go_enter Tryz.func19, Tryz.ntmps19
    go_wp2_with fail
    (with_reducible refine (HRT.out _ hf1).mono ?_)
    rintro e u2 ⟨rfl, hg⟩
    have hr2 := hbr.fr hg (fun h => h)
    have hd := blk_set4 hr2 (.int .i64 1) (.int .i64 0) (.int .i64 0) (.int .i64 0)
    have HF2 : Hid (Fr No w u2) := hf1.trans hg
    have HC := fr_set4 u2 (w.heap.size + 1) (.int .i64 1) (.int .i64 0) (.int .i64 0) (.int .i64 0)
    have HD := Lib.hid (did_tail HH.out ⟨HH.out.no HF2.out, HF2.out.mono fun _ _ h => False.elim h⟩ (Fr.refl (At1 (w.heap.size + 1)) u2) HC (Nat.le_succ _) (Nat.le_succ _))
    have HDD := Lib.hid hd
    have r0 := hr2.cell 0
    have r1 := hr2.cell 1
    have r2 := hr2.cell 2
    have r3 := hr2.cell 3
    have f0 := hr2.frozen 0
    have f1 := hr2.frozen 1
    have f2 := hr2.frozen 2
    have f3 := hr2.frozen 3
    simp only [List.getElem?_toArray, List.getElem?_cons_zero, List.getElem?_cons_succ] at r0 r1 r2 r3
    clear o0 o1 o2 o3 o4 o5 o6 o7 o8 o9 hbr hf1 hg hr2 hd HC HRT
    go_wp2
    have hd := HDD.out
    have d0 := hd.cell 0
    have d1 := hd.cell 1
    have d2 := hd.cell 2
    have d3 := hd.cell 3
    simp only [List.getElem?_toArray, List.getElem?_cons_zero, List.getElem?_cons_succ] at d0 d1 d2 d3
    refine bodyPost_ret (v := .agg #[.int .i64 1, .int .i64 0, .int .i64 0, .int .i64 0]) (by simp [results, Tryz.results19, go_sem, d0, d1, d2, d3]) rfl ?_
    exact ⟨rfl, HD.out⟩
  | true =>
    obtain ⟨e1, e2⟩ := doR_eff b o hr
    rw [e1, e2]
    obtain ⟨f, hef, hdk, hfs⟩ := does_k F q b o v w h ho hv hF hr
    have HDK := Lib.hid hdk
    have hcf := k_of hfs
    have HLK : Hid (∀ m W, Tab Tryz.prog 3 W m 7 effF → (Instr.lookup 77 (.map (some m)) (.int .i64 o.kd) false).run Tryz.prog W = .ok (.func (.func f) #[] #[]) W) := fun m W h => by
      have h1 := h.look Tryz.underlying3 Tryz.underlying77 (zeroF W) o.kd hkd
      rw [hef] at h1
      exact h1
    rw [hr] at HRT
    obtain ⟨re, rh, rs, rn, hR⟩ : ∃ x y z t, effR b o = ⟨x, y, z, t⟩ := ⟨_, _, _, _, rfl⟩
    unfold DoesK at HDK
    rw [hR] at HDK
    rw [hR]
    generalize effB b o = b' at *
    clear e1 e2 hr h ho hv hF hkd hef hdk hfs hR
    obtain ⟨ocl, osq, okd, oac, ope, osm, olg, opr, ohd, ont⟩ := o
    unfold Od.val Od.cs at *
    simp only at HRT HDK HLK ⊢
    have HDX : Hid (∀ W, Fr No w W → Calls Tryz.prog f #[.pointer (some ⟨q.p, 0, none⟩), .agg #[.int .i64 ocl, .int .i64 osq, .int .i64 okd, .string oac, .string ope, .int .i64 osm, v, .int .i64 opr, .int .i64 ohd, .string ont]] W fun e w' => e = .returned (.agg #[.int .i64 re, .int .i64 rh, .int .i64 rs, .int .i64 rn]) ∧ BkS w' q b' ∧ Fr q.wr W w') := fun W hW => HDK.out W hW
    clear HDK
    have hbo := Blk.new w 39 #[.int .i64 ocl, .int .i64 osq, .int .i64 okd, .string oac, .string ope, .int .i64 osm, v, .int .i64 opr, .int .i64 ohd, .string ont]
    have hbr := Blk.new (w.alloc (.cells #[.int .i64 ocl, .int .i64 osq, .int .i64 okd, .string oac, .string ope, .int .i64 osm, v, .int .i64 opr, .int .i64 ohd, .string ont] 39)) 42 #[.int .i64 0, .int .i64 0, .int .i64 0, .int .i64 0]
    rw [World.size_alloc] at hbr
    have hbo1 := hbo.alloc (.cells #[.int .i64 0, .int .i64 0, .int .i64 0, .int .i64 0] 42)
    have hf1 : Fr No w ((w.alloc (.cells #[.int .i64 ocl, .int .i64 osq, .int .i64 okd, .string oac, .string ope, .int .i64 osm, v, .int .i64 opr, .int .i64 ohd, .string ont] 39)).alloc (.cells #[.int .i64 0, .int .i64 0, .int .i64 0, .int .i64 0] 42)) := ((Fr.refl _ _).alloc _).alloc _
    have HX0 : Hid (∀ W, Fr No ((w.alloc (.cells #[.int .i64 ocl, .int .i64 osq, .int .i64 okd, .string oac, .string ope, .int .i64 osm, v, .int .i64 opr, .int .i64 ohd, .string ont] 39)).alloc (.cells #[.int .i64 0, .int .i64 0, .int .i64 0, .int .i64 0] 42)) W → W.cell? ⟨w.heap.size, 0, none⟩ = some (.int .i64 ocl) ∧ W.cell? ⟨w.heap.size, 1, none⟩ = some (.int .i64 osq) ∧ W.cell? ⟨w.heap.size, 2, none⟩ = some (.int .i64 okd) ∧ W.cell? ⟨w.heap.size, 3, none⟩ = some (.string oac) ∧ W.cell? ⟨w.heap.size, 4, none⟩ = some (.string ope) ∧ W.cell? ⟨w.heap.size, 5, none⟩ = some (.int .i64 osm) ∧ W.cell? ⟨w.heap.size, 6, none⟩ = some (v) ∧ W.cell? ⟨w.heap.size, 7, none⟩ = some (.int .i64 opr) ∧ W.cell? ⟨w.heap.size, 8, none⟩ = some (.int .i64 ohd) ∧ W.cell? ⟨w.heap.size, 9, none⟩ = some (.string ont)) := fun W hW => by
      have h1 := hbo1.fr hW (fun h => h)
      exact ⟨h1.cell 0, h1.cell 1, h1.cell 2, h1.cell 3, h1.cell 4, h1.cell 5, h1.cell 6, h1.cell 7, h1.cell 8, h1.cell 9⟩
    obtain ⟨o0, o1, o2, o3, o4, o5, o6, o7, o8, o9⟩ := HX0.out _ (Fr.refl _ _)
    clear hbo
    go_enter Tryz.func19, Tryz.ntmps19
    go_wp2_with fail
    (with_reducible refine (HRT.out _ hf1).mono ?_)
    rintro e w2 ⟨rfl, hg⟩
    have hr2 := hbr.fr hg (fun h => h)
    have hbo2 := hbo1.fr hg (fun h => h)
    have hf2 := hf1.trans hg
    clear o0 o1 o2 o3 o4 o5 o6 o7 o8 o9 HX0 hbo1 hbr hf1 hg HRT
    go_upto_region 3 with (fail)
    have HF2 := Lib.hid hf2
    have HR2 := Lib.hid hr2
    have HX : Hid (∀ W, Fr (q.wrr (w.heap.size + 1)) w2 W → Fr (q.wrr (w.heap.size + 1)) w2 W ∧ W.cell? ⟨w.heap.size, 0, none⟩ = some (.int .i64 ocl) ∧ W.cell? ⟨w.heap.size, 1, none⟩ = some (.int .i64 osq) ∧ W.cell? ⟨w.heap.size, 2, none⟩ = some (.int .i64 okd) ∧ W.cell? ⟨w.heap.size, 3, none⟩ = some (.string oac) ∧ W.cell? ⟨w.heap.size, 4, none⟩ = some (.string ope) ∧ W.cell? ⟨w.heap.size, 5, none⟩ = some (.int .i64 osm) ∧ W.cell? ⟨w.heap.size, 6, none⟩ = some (v) ∧ W.cell? ⟨w.heap.size, 7, none⟩ = some (.int .i64 opr) ∧ W.cell? ⟨w.heap.size, 8, none⟩ = some (.int .i64 ohd) ∧ W.cell? ⟨w.heap.size, 9, none⟩ = some (.string ont)) := fun W hW => by
      have h1 := hbo2.fr hW (fun e => by rcases e with e | e; exact Pl.far HH.out (Nat.le_refl _) e; omega)
      exact ⟨hW, h1.cell 0, h1.cell 1, h1.cell 2, h1.cell 3, h1.cell 4, h1.cell 5, h1.cell 6, h1.cell 7, h1.cell 8, h1.cell 9⟩
    have HFAR : Hid (¬ q.wr (w.heap.size + 1)) := Pl.far HH.out (Nat.le_succ _)
    have hw2 : Fr (q.wrr (w.heap.size + 1)) w2 w2.drew := (Fr.refl _ w2).drew
    clear hbo2 hf2 hr2
    have HEF := Lib.hid (fun W => effects_any W)
    go_region_held3 (fun W => Fr (q.wrr (w.heap.size + 1)) w2 W ∧ W.cell? ⟨w.heap.size, 0, none⟩ = some (.int .i64 ocl) ∧ W.cell? ⟨w.heap.size, 1, none⟩ = some (.int .i64 osq) ∧ W.cell? ⟨w.heap.size, 2, none⟩ = some (.int .i64 okd) ∧ W.cell? ⟨w.heap.size, 3, none⟩ = some (.string oac) ∧ W.cell? ⟨w.heap.size, 4, none⟩ = some (.string ope) ∧ W.cell? ⟨w.heap.size, 5, none⟩ = some (.int .i64 osm) ∧ W.cell? ⟨w.heap.size, 6, none⟩ = some (v) ∧ W.cell? ⟨w.heap.size, 7, none⟩ = some (.int .i64 opr) ∧ W.cell? ⟨w.heap.size, 8, none⟩ = some (.int .i64 ohd) ∧ W.cell? ⟨w.heap.size, 9, none⟩ = some (.string ont))
      (first
        | (refine HX.out _ ?_; with_reducible assumption)
        | (refine HX.out _ (Fr.trans ?_ ((fr_set4 _ _ _ _ _ _).mono fun _ _ h => .inr h)); with_reducible assumption))
      (first
        | (go_at_call 35; (with_reducible refine (HEF.out _).mono ?_); rintro e u1 ⟨m, rfl, hT, hg⟩; have hlk := HLK.out m _ hT; have ka1 : Fr No w2 u1 := Fr.trans (Fr.refl _ w2).drew hg; have kb1 : Fr (q.wrr (w.heap.size + 1)) w2 u1 := ka1.mono (fun _ _ h => False.elim h); clear hg hT)
        | ((with_reducible refine (HDX.out _ (HF2.out.trans ka1)).mono ?_); rintro e u2 ⟨rfl, hb2, hg⟩; have ka2 : Fr q.wr w2 u2 := Fr.trans (ka1.mono (fun _ _ h => False.elim h)) hg; have kb2 : Fr (q.wrr (w.heap.size + 1)) w2 u2 := ka2.mono (fun _ _ h => .inl h); clear hg; have hz2 := HR2.out.fr ka2 HFAR.out; have c0 := hz2.cell 0; have c1 := hz2.cell 1; have c2 := hz2.cell 2; have c3 := hz2.cell 3; have f0 := hz2.frozen 0; have f1 := hz2.frozen 1; have f2 := hz2.frozen 2; have f3 := hz2.frozen 3; simp only [List.getElem?_toArray, List.getElem?_cons_zero, List.getElem?_cons_succ] at c0 c1 c2 c3))
    all_goals
      have hd := blk_set4 hz2 (.int .i64 re) (.int .i64 rh) (.int .i64 rs) (.int .i64 rn)
      have HD := Lib.hid (did_tail HH.out ⟨hb2, (HF2.out.mono (T := q.wr) fun _ _ h => False.elim h).trans ka2⟩ (Fr.refl (At1 (w.heap.size + 1)) u2) (fr_set4 u2 (w.heap.size + 1) (.int .i64 re) (.int .i64 rh) (.int .i64 rs) (.int .i64 rn)) (Nat.le_succ _) (Nat.le_succ _))
      clear c0 c1 c2 c3 f0 f1 f2 f3 hz2 HX hcf hlk
      generalize (((u2.setCell ⟨w.heap.size + 1, 0, none⟩ (.int .i64 re)).setCell ⟨w.heap.size + 1, 1, none⟩ (.int .i64 rh)).setCell ⟨w.heap.size + 1, 2, none⟩ (.int .i64 rs)).setCell ⟨w.heap.size + 1, 3, none⟩ (.int .i64 rn) = u3 at *
      have d0 := hd.cell 0
      have d1 := hd.cell 1
      have d2 := hd.cell 2
      have d3 := hd.cell 3
      simp only [List.getElem?_toArray, List.getElem?_cons_zero, List.getElem?_cons_succ] at d0 d1 d2 d3
      go_wp2
      refine bodyPost_ret (v := .agg #[.int .i64 re, .int .i64 rh, .int .i64 rs, .int .i64 rn]) (by simp [results, Tryz.results19, go_sem, d0, d1, d2, d3]) rfl ?_
      exact ⟨rfl, HD.out⟩
end Go.Proofs.YtkkhdjchfhmliaaGreat

namespace Go.Proofs.YtkkhdjchfhmliaaGreat
open Go.RowKit Go.My Go.Maps
set_option linter.unusedSimpArgs false
set_option linter.unusedVariables false
attribute [local go_sem ↓] Go.wp_at_zero Go.wp_at_succ

theorem neq_hd (a b : Hd) (W : World) (h : a ≠ b) : (binOp .neq 59 (.agg #[.int .i64 a.num, .string ⟨a.acct.toArray⟩, .int .i64 a.sum]) (.agg #[.int .i64 b.num, .string ⟨b.acct.toArray⟩, .int .i64 b.sum])).run Tryz.prog W = .ok (.bool true) W := by
  have key : a.num = b.num → a.acct = b.acct → ¬ a.sum = b.sum := fun h1 h2 h3 => h (by cases a; cases b; simp_all)
  simp [go_sem]
  exact key
def EqARel (S T : List Ac) (w : World) (i : Value) (wr : World) : Prop :=
  ∃ k j : Nat, k ≤ S.length ∧ i = .int .i64 k ∧ S.take k = T.take k ∧ wr = w.drewN j
def EqHRel (S T : List Hd) (w : World) (i : Value) (wr : World) : Prop :=
  ∃ k j : Nat, k ≤ S.length ∧ i = .int .i64 k ∧ S.take k = T.take k ∧ wr = w.drewN j
set_option maxRecDepth 100000 in
set_option maxHeartbeats 1000000 in
theorem equalA_any (F G : Nat → Prop) (A B : Option Addr) (c d : Nat) (S T : List Ac) (w : World) (hl : Rd w F 4 A S.length (acs S)) (hr : Rd w G 4 B T.length (acs T)) (hsz : S.length ≤ 1000000000) :
    Calls Tryz.prog 20 #[.slice A S.length c, .slice B T.length d] w fun e w' => e = .returned (.bool (decide (S = T))) ∧ ∃ n, w' = w.drewN n := by
  by_cases hlen : S.length = T.length
  · have hz : ((S.length : Int) != (T.length : Int)) = false := by rw [bne_eq_false_iff_eq]; omega
    have HL := Lib.hid hlen
    have HA := Lib.hid hl
    have HB := Lib.hid hr
    clear hlen hl hr
    go_enter Tryz.func20, Tryz.ntmps20
    go_wp2
    go_loopw [13] (fun a wr => EqARel S T w a wr) (fun a _ => S.length - (intOf a).toNat)
    case atStart => exact ⟨0, 0, Nat.zero_le _, rfl, rfl, rfl⟩
    case round =>
      obtain ⟨k, j, hk, rfl, heq, rfl⟩ := hrel
      have HE := Lib.hid heq
      clear heq
      by_cases hlt : k < S.length
      · have hlt2 : k < T.length := by have := HL.out; omega
        obtain ⟨ad, rfl, _, p0, p1, p2, p3⟩ := acs_at HA.out k hlt
        obtain ⟨bd, rfl, _, q0, q1, q2, q3⟩ := acs_at HB.out k hlt2
        have e1 : S.take (k + 1) = S.take k ++ [S[k]] := List.take_succ_eq_append_getElem hlt
        have e2 : T.take (k + 1) = T.take k ++ [T[k]] := List.take_succ_eq_append_getElem hlt2
        by_cases hxy : S[k] = T[k]
        · have E : Hid (S.take (k + 1) = T.take (k + 1)) := by show _ = _; rw [e1, e2, HE.out, hxy]
          rw [← hxy] at q0 q1 q2 q3
          clear e1 e2 hxy
          generalize S[k].name.toArray = n1 at *
          generalize S[k].hv = v1 at *
          generalize S[k].st = v2 at *
          generalize S[k].lim = v3 at *
          go_wp2
          go_quiet (fail)
          go_wp2
          go_roundw
          case rel => exact ⟨k + 1, _, by omega, by go_num, E.out, rfl⟩
          case measure => simp [intOf]; omega
        · have E : Hid (S ≠ T) := by
            intro h
            subst h
            exact hxy rfl
          have hne := fun W => neq_ac S[k] T[k] W hxy
          clear e1 e2 hxy
          generalize S[k].name.toArray = n1 at *
          generalize S[k].hv = v1 at *
          generalize S[k].st = v2 at *
          generalize S[k].lim = v3 at *
          generalize T[k].name.toArray = m1 at *
          generalize T[k].hv = u1 at *
          generalize T[k].st = u2 at *
          generalize T[k].lim = u3 at *
          go_wp2
          go_quiet (fail)
          go_wp2
          go_ret
          exact ⟨by rw [decide_eq_false E.out]; rfl, _, World.drewN_drewN _ _ _⟩
      · have : k = S.length := by omega
        subst this
        go_wp2
        go_ret
        have h1 := HE.out
        rw [List.take_length, HL.out, List.take_length] at h1
        exact ⟨by rw [decide_eq_true h1]; rfl, _, rfl⟩
  · have hz : ((S.length : Int) != (T.length : Int)) = true := by rw [bne_iff_ne]; omega
    have HL := Lib.hid hlen
    clear hlen hl hr
    go_enter Tryz.func20, Tryz.ntmps20
    go_wp2
    go_ret
    exact ⟨by rw [decide_eq_false (fun h => HL.out (by rw [h]))]; rfl, 0, rfl⟩

set_option maxRecDepth 100000 in
set_option maxHeartbeats 1000000 in
theorem equalH_any (F G : Nat → Prop) (A B : Option Addr) (c d : Nat) (S T : List Hd) (w : World) (hl : Rd w F 3 A S.length (hds S)) (hr : Rd w G 3 B T.length (hds T)) (hsz : S.length ≤ 1000000000) :
    Calls Tryz.prog 22 #[.slice A S.length c, .slice B T.length d] w fun e w' => e = .returned (.bool (decide (S = T))) ∧ ∃ n, w' = w.drewN n := by
  by_cases hlen : S.length = T.length
  · have hz : ((S.length : Int) != (T.length : Int)) = false := by rw [bne_eq_false_iff_eq]; omega
    have HL := Lib.hid hlen
    have HA := Lib.hid hl
    have HB := Lib.hid hr
    clear hlen hl hr
    go_enter Tryz.func22, Tryz.ntmps22
    go_wp2
    go_loopw [13] (fun a wr => EqHRel S T w a wr) (fun a _ => S.length - (intOf a).toNat)
    case atStart => exact ⟨0, 0, Nat.zero_le _, rfl, rfl, rfl⟩
    case round =>
      obtain ⟨k, j, hk, rfl, heq, rfl⟩ := hrel
      have HE := Lib.hid heq
      clear heq
      by_cases hlt : k < S.length
      · have hlt2 : k < T.length := by have := HL.out; omega
        obtain ⟨ad, rfl, _, p0, p1, p2⟩ := hd_at HA.out k hlt
        obtain ⟨bd, rfl, _, q0, q1, q2⟩ := hd_at HB.out k hlt2
        have e1 : S.take (k + 1) = S.take k ++ [S[k]] := List.take_succ_eq_append_getElem hlt
        have e2 : T.take (k + 1) = T.take k ++ [T[k]] := List.take_succ_eq_append_getElem hlt2
        by_cases hxy : S[k] = T[k]
        · have E : Hid (S.take (k + 1) = T.take (k + 1)) := by show _ = _; rw [e1, e2, HE.out, hxy]
          rw [← hxy] at q0 q1 q2
          clear e1 e2 hxy
          generalize S[k].acct.toArray = n1 at *
          generalize S[k].num = v1 at *
          generalize S[k].sum = v2 at *
          go_wp2
          go_quiet (fail)
          go_wp2
          go_roundw
          case rel => exact ⟨k + 1, _, by omega, by go_num, E.out, rfl⟩
          case measure => simp [intOf]; omega
        · have E : Hid (S ≠ T) := by
            intro h
            subst h
            exact hxy rfl
          have hne := fun W => neq_hd S[k] T[k] W hxy
          clear e1 e2 hxy
          generalize S[k].acct.toArray = n1 at *
          generalize S[k].num = v1 at *
          generalize S[k].sum = v2 at *
          generalize T[k].acct.toArray = m1 at *
          generalize T[k].num = u1 at *
          generalize T[k].sum = u2 at *
          go_wp2
          go_quiet (fail)
          go_wp2
          go_ret
          exact ⟨by rw [decide_eq_false E.out]; rfl, _, World.drewN_drewN _ _ _⟩
      · have : k = S.length := by omega
        subst this
        go_wp2
        go_ret
        have h1 := HE.out
        rw [List.take_length, HL.out, List.take_length] at h1
        exact ⟨by rw [decide_eq_true h1]; rfl, _, rfl⟩
  · have hz : ((S.length : Int) != (T.length : Int)) = true := by rw [bne_iff_ne]; omega
    have HL := Lib.hid hlen
    clear hlen hl hr
    go_enter Tryz.func22, Tryz.ntmps22
    go_wp2
    go_ret
    exact ⟨by rw [decide_eq_false (fun h => HL.out (by rw [h]))]; rfl, 0, rfl⟩

set_option maxRecDepth 100000 in
theorem baccts_any (q : Pl) (b : Bk) (w : World) (h : BkS w q b) : Calls Tryz.prog 21 #[.pointer (some ⟨q.p, 0, none⟩)] w (RetOwn w 54 4 none b.S.length (acs b.S)) := by
  have HA := Lib.hid (all_any q.c q.m b.S w h.ch h.inv.st.kp.inv.nm h.inv.st.kp.inv.len)
  have x : w.cell? ⟨q.p, 0, none⟩ = some (.pointer (some ⟨q.c, 0, none⟩)) := h.blk.cell 0
  clear h
  go_enter Tryz.func21, Tryz.ntmps21
  go_wp2_with fail
  (with_reducible refine HA.out.mono ?_)
  rintro e w1 ⟨v, rfl, hr⟩
  have HR := Lib.hid hr
  clear hr x
  go_wp2
  go_ret
  exact ⟨v, rfl, HR.out⟩
theorem baccts_nil (w : World) : Calls Tryz.prog 21 #[.pointer none] w fun e w' => e = .returned (.slice none 0 0) ∧ w' = w := by
  go_enter Tryz.func21, Tryz.ntmps21
  go_wp2
  go_ret
  exact ⟨rfl, rfl⟩
set_option maxRecDepth 100000 in
theorem bholds_any (q : Pl) (b : Bk) (w : World) (h : BkS w q b) : Calls Tryz.prog 23 #[.pointer (some ⟨q.p, 0, none⟩)] w (RetOwn w 59 3 none b.H.length (hds b.H)) := by
  have HA := Lib.hid (allH_any q.h q.k b.H w h.hd (by have := h.inv.st.len; omega))
  have x : w.cell? ⟨q.p, 1, none⟩ = some (.pointer (some ⟨q.h, 0, none⟩)) := h.blk.cell 1
  clear h
  go_enter Tryz.func23, Tryz.ntmps23
  go_wp2_with fail
  (with_reducible refine HA.out.mono ?_)
  rintro e w1 ⟨v, rfl, hr⟩
  have HR := Lib.hid hr
  clear hr x
  go_wp2
  go_ret
  exact ⟨v, rfl, HR.out⟩
theorem bholds_nil (w : World) : Calls Tryz.prog 23 #[.pointer none] w fun e w' => e = .returned (.slice none 0 0) ∧ w' = w := by
  go_enter Tryz.func23, Tryz.ntmps23
  go_wp2
  go_ret
  exact ⟨rfl, rfl⟩
/-- a new book -/
def NewB (w : World) (b : Bk) (e : Ending) (w' : World) : Prop := ∃ q : Pl, e = .returned (.pointer (some ⟨q.p, 0, none⟩)) ∧ BkS w' q b ∧ Fr No w w' ∧ ∀ i, q.all i → w.heap.size ≤ i
theorem NewB.of {w w' : World} {b : Bk} {c m h k : Nat} (hc : ChS w' c m b.S) (hh : HdS w' h k b.H) (hne : k ≠ m) (hi : BkI b) (hf : Fr No w w') (h1 : w.heap.size ≤ c) (h2 : w.heap.size ≤ m) (h3 : w.heap.size ≤ h) (h4 : w.heap.size ≤ k) :
    NewB w b (.returned (.pointer (some ⟨w'.heap.size, 0, none⟩))) (w'.alloc (.cells #[.pointer (some ⟨c, 0, none⟩), .pointer (some ⟨h, 0, none⟩), .int .i64 b.cl] 64)) := by
  refine ⟨⟨w'.heap.size, c, m, h, k⟩, rfl, ⟨Blk.new w' _ _, hc.no ((Fr.refl _ _).alloc _), hh.no ((Fr.refl _ _).alloc _), hne, hi⟩, hf.alloc _, ?_⟩
  intro i hi
  have := hf.size
  rcases hi with e | e | e | e | e <;> simp only at e <;> omega
/-- the same accounts, holds, last closed period -/
def sameBk (a b : Bk) : Bool := decide (a.S = b.S ∧ a.H = b.H ∧ a.cl = b.cl)
set_option maxRecDepth 100000 in
set_option maxHeartbeats 4000000 in
theorem bsameA (p q : Pl) (a b : Bk) (w : World) (ha : BkS w p a) (hb : BkS w q b) (hd : ¬ a.S = b.S) : Calls Tryz.prog 11 #[.pointer (some ⟨p.p, 0, none⟩), .pointer (some ⟨q.p, 0, none⟩)] w fun e w' => e = .returned (.bool (false)) ∧ Fr No w w' := by
  have HA := Lib.hid ha
  have HB := Lib.hid hb
  have HD := Lib.hid hd
  have HX : Hid (∀ W, Fr No w W → Fr No w W ∧ W.cell? ⟨p.p, 2, none⟩ = some (.int .i64 a.cl) ∧ W.cell? ⟨q.p, 2, none⟩ = some (.int .i64 b.cl)) := fun W hW => ⟨hW, (ha.blk.fr hW (fun h => h)).cell 2, (hb.blk.fr hW (fun h => h)).cell 2⟩
  have hw : Fr No w w.drew := (Fr.refl _ w).drew
  clear ha hb hd
  go_enter Tryz.func11, Tryz.ntmps11
  go_upto_region 3 with (fail)
  refine wp_region_held_drew (S := fun W => Fr No w W ∧ W.cell? ⟨p.p, 2, none⟩ = some (.int .i64 a.cl) ∧ W.cell? ⟨q.p, 2, none⟩ = some (.int .i64 b.cl)) (by kernel_rfl) ?_ (fun hH0 => ?_)
  · exact HX.out _ hw
  refine wpAnyH_take (i := 0) (v := ?_) rfl (by kernel_rfl) (by kernel_rfl) (by kernel_rfl) (fun _ _ _ h => h) (Or.inl ⟨by rfl, ?_⟩) hH0 ?_
  rotate_left
  · (intro w hSw; (try dsimp only at hSw); go_simp; try with_reducible rfl)
  (try simp only [Act.put, List.getElem_toArray, List.getElem_cons_zero, List.getElem_cons_succ, List.setIfInBounds_toArray, List.set_cons_zero, List.set_cons_succ])
  refine wpAnyH_take (i := 2) (v := ?_) rfl (by kernel_rfl) (by kernel_rfl) (by kernel_rfl) (fun _ _ _ h => h) (Or.inl ⟨by rfl, ?_⟩) hH0 ?_
  rotate_left
  · (intro w hSw; (try dsimp only at hSw); go_simp; try with_reducible rfl)
  (try simp only [Act.put, List.getElem_toArray, List.getElem_cons_zero, List.getElem_cons_succ, List.setIfInBounds_toArray, List.set_cons_zero, List.set_cons_succ])
  refine wpAnyH_ready (rs := [1]) (by kernel_rfl) (by simp) ?_
  refine AllReadyH.cons rfl (fun K hK => ?_) ?_
  · go_simp
    (with_reducible refine (baccts_any p a _ (HA.out.no hw)).mono ?_)
    rintro e u1 ⟨v1, rfl, ho1, hg, -⟩
    obtain ⟨A1, c1, rfl, hl1, hm1⟩ := ho1.form
    have ka1 : Fr No w u1 := Fr.trans hw (fr_at_none hg)
    have HO1 := Lib.hid ho1.rd
    clear hg ho1
    refine hK.out _ _ ?_ (fun hH1 => ?_)
    · exact HX.out _ ka1
    clear hK K
    (try simp only [Act.put, List.getElem_toArray, List.getElem_cons_zero, List.getElem_cons_succ, List.setIfInBounds_toArray, List.set_cons_zero, List.set_cons_succ])
    refine wpAnyH_ready (rs := [3]) (by kernel_rfl) (by simp) ?_
    refine AllReadyH.cons rfl (fun K hK => ?_) ?_
    · go_simp
      (with_reducible refine (baccts_any q b _ (HB.out.no ka1)).mono ?_)
      rintro e u2 ⟨v2, rfl, ho2, hg, -⟩
      obtain ⟨A2, c2, rfl, hl2, hm2⟩ := ho2.form
      have ka2 : Fr No w u2 := Fr.trans ka1 (fr_at_none hg)
      have HO12 := Lib.hid (HO1.out.fr (by omega) (fr_at_none hg) (fun _ _ _ h => h))
      have HO2 := Lib.hid ho2.rd
      clear hg ho2
      refine hK.out _ _ ?_ (fun hH2 => ?_)
      · exact HX.out _ ka2
      clear hK K
      (try simp only [Act.put, List.getElem_toArray, List.getElem_cons_zero, List.getElem_cons_succ, List.setIfInBounds_toArray, List.set_cons_zero, List.set_cons_succ])
      refine wpAnyH_ready (rs := [4]) (by kernel_rfl) (by simp) ?_
      refine AllReadyH.cons rfl (fun K hK => ?_) ?_
      · go_simp
        have q1 := equalA_any _ _ A1 A2 c1 c2 a.S b.S u2 HO12.out HO2.out (by have := HA.out.inv.st.kp.inv.len; omega)
        rw [decide_eq_false HD.out] at q1
        (with_reducible refine q1.mono ?_)
        rintro e u3 ⟨rfl, nq, rfl⟩
        have ka3 : Fr No w (u2.drewN nq) := ka2.drewN nq
        clear q1
        refine hK.out _ _ ?_ (fun hH3 => ?_)
        · exact HX.out _ ka3
        clear hK K
        (try simp only [Act.put, List.getElem_toArray, List.getElem_cons_zero, List.getElem_cons_succ, List.setIfInBounds_toArray, List.set_cons_zero, List.set_cons_succ])
        refine wpAnyH_take (i := 5) (v := ?_) rfl (by kernel_rfl) (by kernel_rfl) (by kernel_rfl) (fun _ _ _ h => h) (Or.inl ⟨by rfl, ?_⟩) hH3 ?_
        rotate_left
        · (intro w hSw; (try dsimp only at hSw); go_simp; try with_reducible rfl)
        (try simp only [Act.put, List.getElem_toArray, List.getElem_cons_zero, List.getElem_cons_succ, List.setIfInBounds_toArray, List.set_cons_zero, List.set_cons_succ])
        refine wpAnyH_take (i := 6) (v := undef) rfl (by kernel_rfl) (by kernel_rfl) (by kernel_rfl) (fun _ _ _ h => h) (Or.inr ⟨by rfl, rfl⟩) hH3 ?_
        (try simp only [Act.put, List.getElem_toArray, List.getElem_cons_zero, List.getElem_cons_succ, List.setIfInBounds_toArray, List.set_cons_zero, List.set_cons_succ])
        refine wpAnyH_take (i := 7) (v := undef) rfl (by kernel_rfl) (by kernel_rfl) (by kernel_rfl) (fun _ _ _ h => h) (Or.inr ⟨by rfl, rfl⟩) hH3 ?_
        (try simp only [Act.put, List.getElem_toArray, List.getElem_cons_zero, List.getElem_cons_succ, List.setIfInBounds_toArray, List.set_cons_zero, List.set_cons_succ])
        refine wpAnyH_take (i := 8) (v := undef) rfl (by kernel_rfl) (by kernel_rfl) (by kernel_rfl) (fun _ _ _ h => h) (Or.inr ⟨by rfl, rfl⟩) hH3 ?_
        (try simp only [Act.put, List.getElem_toArray, List.getElem_cons_zero, List.getElem_cons_succ, List.setIfInBounds_toArray, List.set_cons_zero, List.set_cons_succ])
        refine wpAnyH_take (i := 9) (v := undef) rfl (by kernel_rfl) (by kernel_rfl) (by kernel_rfl) (fun _ _ _ h => h) (Or.inr ⟨by rfl, rfl⟩) hH3 ?_
        (try simp only [Act.put, List.getElem_toArray, List.getElem_cons_zero, List.getElem_cons_succ, List.setIfInBounds_toArray, List.set_cons_zero, List.set_cons_succ])
        refine wpAnyH_take (i := 10) (v := undef) rfl (by kernel_rfl) (by kernel_rfl) (by kernel_rfl) (fun _ _ _ h => h) (Or.inr ⟨by rfl, rfl⟩) hH3 ?_
        (try simp only [Act.put, List.getElem_toArray, List.getElem_cons_zero, List.getElem_cons_succ, List.setIfInBounds_toArray, List.set_cons_zero, List.set_cons_succ])
        refine wpAnyH_take (i := 11) (v := ?_) rfl (by kernel_rfl) (by kernel_rfl) (by kernel_rfl) (fun _ _ _ h => h) (Or.inl ⟨by rfl, ?_⟩) hH3 ?_
        rotate_left
        · (intro w hSw; (try dsimp only at hSw); go_simp; try with_reducible rfl)
        (try simp only [Act.put, List.getElem_toArray, List.getElem_cons_zero, List.getElem_cons_succ, List.setIfInBounds_toArray, List.set_cons_zero, List.set_cons_succ])
        refine wpAnyH_take (i := 12) (v := ?_) rfl (by kernel_rfl) (by kernel_rfl) (by kernel_rfl) (fun _ _ _ h => h) (Or.inl ⟨by rfl, ?_⟩) hH3 ?_
        rotate_left
        · (intro w hSw; (try dsimp only at hSw); go_simp; try with_reducible rfl)
        (try simp only [Act.put, List.getElem_toArray, List.getElem_cons_zero, List.getElem_cons_succ, List.setIfInBounds_toArray, List.set_cons_zero, List.set_cons_succ])
        refine wpAnyH_take (i := 13) (v := undef) rfl (by kernel_rfl) (by kernel_rfl) (by kernel_rfl) (fun _ _ _ h => h) (Or.inr ⟨by rfl, rfl⟩) hH3 ?_
        (try simp only [Act.put, List.getElem_toArray, List.getElem_cons_zero, List.getElem_cons_succ, List.setIfInBounds_toArray, List.set_cons_zero, List.set_cons_succ])
        refine wpAnyH_take (i := 14) (v := undef) rfl (by kernel_rfl) (by kernel_rfl) (by kernel_rfl) (fun _ _ _ h => h) (Or.inr ⟨by rfl, rfl⟩) hH3 ?_
        (try simp only [Act.put, List.getElem_toArray, List.getElem_cons_zero, List.getElem_cons_succ, List.setIfInBounds_toArray, List.set_cons_zero, List.set_cons_succ])
        refine wpAnyH_take (i := 15) (v := undef) rfl (by kernel_rfl) (by kernel_rfl) (by kernel_rfl) (fun _ _ _ h => h) (Or.inr ⟨by rfl, rfl⟩) hH3 ?_
        (try simp only [Act.put, List.getElem_toArray, List.getElem_cons_zero, List.getElem_cons_succ, List.setIfInBounds_toArray, List.set_cons_zero, List.set_cons_succ])
        refine wpAnyH_take (i := 16) (v := undef) rfl (by kernel_rfl) (by kernel_rfl) (by kernel_rfl) (fun _ _ _ h => h) (Or.inr ⟨by rfl, rfl⟩) hH3 ?_
        (try simp only [Act.put, List.getElem_toArray, List.getElem_cons_zero, List.getElem_cons_succ, List.setIfInBounds_toArray, List.set_cons_zero, List.set_cons_succ])
        refine wpAnyH_take (i := 17) (v := undef) rfl (by kernel_rfl) (by kernel_rfl) (by kernel_rfl) (fun _ _ _ h => h) (Or.inr ⟨by rfl, rfl⟩) hH3 ?_
        (try simp only [Act.put, List.getElem_toArray, List.getElem_cons_zero, List.getElem_cons_succ, List.setIfInBounds_toArray, List.set_cons_zero, List.set_cons_succ])
        refine wpAnyH_take (i := 18) (v := undef) rfl (by kernel_rfl) (by kernel_rfl) (by kernel_rfl) (fun _ _ _ h => h) (Or.inr ⟨by rfl, rfl⟩) hH3 ?_
        (try simp only [Act.put, List.getElem_toArray, List.getElem_cons_zero, List.getElem_cons_succ, List.setIfInBounds_toArray, List.set_cons_zero, List.set_cons_succ])
        refine wpAnyH_take (i := 19) (v := undef) rfl (by kernel_rfl) (by kernel_rfl) (by kernel_rfl) (fun _ _ _ h => h) (Or.inr ⟨by rfl, rfl⟩) hH3 ?_
        (try simp only [Act.put, List.getElem_toArray, List.getElem_cons_zero, List.getElem_cons_succ, List.setIfInBounds_toArray, List.set_cons_zero, List.set_cons_succ])
        refine wpAnyH_take (i := 20) (v := undef) rfl (by kernel_rfl) (by kernel_rfl) (by kernel_rfl) (fun _ _ _ h => h) (Or.inr ⟨by rfl, rfl⟩) hH3 ?_
        (try simp only [Act.put, List.getElem_toArray, List.getElem_cons_zero, List.getElem_cons_succ, List.setIfInBounds_toArray, List.set_cons_zero, List.set_cons_succ])
        refine wpAnyH_take (i := 21) (v := undef) rfl (by kernel_rfl) (by kernel_rfl) (by kernel_rfl) (fun _ _ _ h => h) (Or.inr ⟨by rfl, rfl⟩) hH3 ?_
        (try simp only [Act.put, List.getElem_toArray, List.getElem_cons_zero, List.getElem_cons_succ, List.setIfInBounds_toArray, List.set_cons_zero, List.set_cons_succ])
        refine wpAnyH_take (i := 22) (v := ?_) rfl (by kernel_rfl) (by kernel_rfl) (by kernel_rfl) (fun _ _ _ h => h) (Or.inl ⟨by rfl, ?_⟩) hH3 ?_
        rotate_left
        · (intro w hSw; (try dsimp only at hSw); go_simp; try with_reducible rfl)
        (try simp only [Act.put, List.getElem_toArray, List.getElem_cons_zero, List.getElem_cons_succ, List.setIfInBounds_toArray, List.set_cons_zero, List.set_cons_succ])
        refine wpAnyH_take (i := 23) (v := ?_) rfl (by kernel_rfl) (by kernel_rfl) (by kernel_rfl) (fun _ _ _ h => h) (Or.inl ⟨by rfl, ?_⟩) hH3 ?_
        rotate_left
        · (intro w hSw; (try dsimp only at hSw); go_simp; try with_reducible rfl)
        (try simp only [Act.put, List.getElem_toArray, List.getElem_cons_zero, List.getElem_cons_succ, List.setIfInBounds_toArray, List.set_cons_zero, List.set_cons_succ])
        refine wpAnyH_done (by kernel_rfl) ?_ _
        go_wp2
        go_ret
        exact ⟨rfl, ka3⟩
      exact AllReadyH.nil
    exact AllReadyH.nil
  exact AllReadyH.nil
set_option maxRecDepth 100000 in
set_option maxHeartbeats 4000000 in
theorem bsameH (p q : Pl) (a b : Bk) (w : World) (ha : BkS w p a) (hb : BkS w q b) (hd : a.S = b.S) (hdh : ¬ a.H = b.H) : Calls Tryz.prog 11 #[.pointer (some ⟨p.p, 0, none⟩), .pointer (some ⟨q.p, 0, none⟩)] w fun e w' => e = .returned (.bool (false)) ∧ Fr No w w' := by
  have HA := Lib.hid ha
  have HB := Lib.hid hb
  have HD := Lib.hid hd
  have HDH := Lib.hid hdh
  have HX : Hid (∀ W, Fr No w W → Fr No w W ∧ W.cell? ⟨p.p, 2, none⟩ = some (.int .i64 a.cl) ∧ W.cell? ⟨q.p, 2, none⟩ = some (.int .i64 b.cl)) := fun W hW => ⟨hW, (ha.blk.fr hW (fun h => h)).cell 2, (hb.blk.fr hW (fun h => h)).cell 2⟩
  have hw : Fr No w w.drew := (Fr.refl _ w).drew
  clear ha hb hd hdh
  go_enter Tryz.func11, Tryz.ntmps11
  go_upto_region 3 with (fail)
  refine wp_region_held_drew (S := fun W => Fr No w W ∧ W.cell? ⟨p.p, 2, none⟩ = some (.int .i64 a.cl) ∧ W.cell? ⟨q.p, 2, none⟩ = some (.int .i64 b.cl)) (by kernel_rfl) ?_ (fun hH0 => ?_)
  · exact HX.out _ hw
  refine wpAnyH_take (i := 0) (v := ?_) rfl (by kernel_rfl) (by kernel_rfl) (by kernel_rfl) (fun _ _ _ h => h) (Or.inl ⟨by rfl, ?_⟩) hH0 ?_
  rotate_left
  · (intro w hSw; (try dsimp only at hSw); go_simp; try with_reducible rfl)
  (try simp only [Act.put, List.getElem_toArray, List.getElem_cons_zero, List.getElem_cons_succ, List.setIfInBounds_toArray, List.set_cons_zero, List.set_cons_succ])
  refine wpAnyH_take (i := 2) (v := ?_) rfl (by kernel_rfl) (by kernel_rfl) (by kernel_rfl) (fun _ _ _ h => h) (Or.inl ⟨by rfl, ?_⟩) hH0 ?_
  rotate_left
  · (intro w hSw; (try dsimp only at hSw); go_simp; try with_reducible rfl)
  (try simp only [Act.put, List.getElem_toArray, List.getElem_cons_zero, List.getElem_cons_succ, List.setIfInBounds_toArray, List.set_cons_zero, List.set_cons_succ])
  refine wpAnyH_ready (rs := [1]) (by kernel_rfl) (by simp) ?_
  refine AllReadyH.cons rfl (fun K hK => ?_) ?_
  · go_simp
    (with_reducible refine (baccts_any p a _ (HA.out.no hw)).mono ?_)
    rintro e u1 ⟨v1, rfl, ho1, hg, -⟩
    obtain ⟨A1, c1, rfl, hl1, hm1⟩ := ho1.form
    have ka1 : Fr No w u1 := Fr.trans hw (fr_at_none hg)
    have HO1 := Lib.hid ho1.rd
    clear hg ho1
    refine hK.out _ _ ?_ (fun hH1 => ?_)
    · exact HX.out _ ka1
    clear hK K
    (try simp only [Act.put, List.getElem_toArray, List.getElem_cons_zero, List.getElem_cons_succ, List.setIfInBounds_toArray, List.set_cons_zero, List.set_cons_succ])
    refine wpAnyH_ready (rs := [3]) (by kernel_rfl) (by simp) ?_
    refine AllReadyH.cons rfl (fun K hK => ?_) ?_
    · go_simp
      (with_reducible refine (baccts_any q b _ (HB.out.no ka1)).mono ?_)
      rintro e u2 ⟨v2, rfl, ho2, hg, -⟩
      obtain ⟨A2, c2, rfl, hl2, hm2⟩ := ho2.form
      have ka2 : Fr No w u2 := Fr.trans ka1 (fr_at_none hg)
      have HO12 := Lib.hid (HO1.out.fr (by omega) (fr_at_none hg) (fun _ _ _ h => h))
      have HO2 := Lib.hid ho2.rd
      clear hg ho2
      refine hK.out _ _ ?_ (fun hH2 => ?_)
      · exact HX.out _ ka2
      clear hK K
      (try simp only [Act.put, List.getElem_toArray, List.getElem_cons_zero, List.getElem_cons_succ, List.setIfInBounds_toArray, List.set_cons_zero, List.set_cons_succ])
      refine wpAnyH_ready (rs := [4]) (by kernel_rfl) (by simp) ?_
      refine AllReadyH.cons rfl (fun K hK => ?_) ?_
      · go_simp
        have q1 := equalA_any _ _ A1 A2 c1 c2 a.S b.S u2 HO12.out HO2.out (by have := HA.out.inv.st.kp.inv.len; omega)
        rw [decide_eq_true HD.out] at q1
        (with_reducible refine q1.mono ?_)
        rintro e u3 ⟨rfl, nq, rfl⟩
        have ka3 : Fr No w (u2.drewN nq) := ka2.drewN nq
        clear q1
        refine hK.out _ _ ?_ (fun hH3 => ?_)
        · exact HX.out _ ka3
        clear hK K
        (try simp only [Act.put, List.getElem_toArray, List.getElem_cons_zero, List.getElem_cons_succ, List.setIfInBounds_toArray, List.set_cons_zero, List.set_cons_succ])
        refine wpAnyH_take (i := 5) (v := ?_) rfl (by kernel_rfl) (by kernel_rfl) (by kernel_rfl) (fun _ _ _ h => h) (Or.inl ⟨by rfl, ?_⟩) hH3 ?_
        rotate_left
        · (intro w hSw; (try dsimp only at hSw); go_simp; try with_reducible rfl)
        (try simp only [Act.put, List.getElem_toArray, List.getElem_cons_zero, List.getElem_cons_succ, List.setIfInBounds_toArray, List.set_cons_zero, List.set_cons_succ])
        refine wpAnyH_take (i := 6) (v := ?_) rfl (by kernel_rfl) (by kernel_rfl) (by kernel_rfl) (fun _ _ _ h => h) (Or.inl ⟨by rfl, ?_⟩) hH3 ?_
        rotate_left
        · (intro w hSw; (try dsimp only at hSw); go_simp; try with_reducible rfl)
        (try simp only [Act.put, List.getElem_toArray, List.getElem_cons_zero, List.getElem_cons_succ, List.setIfInBounds_toArray, List.set_cons_zero, List.set_cons_succ])
        refine wpAnyH_take (i := 8) (v := ?_) rfl (by kernel_rfl) (by kernel_rfl) (by kernel_rfl) (fun _ _ _ h => h) (Or.inl ⟨by rfl, ?_⟩) hH3 ?_
        rotate_left
        · (intro w hSw; (try dsimp only at hSw); go_simp; try with_reducible rfl)
        (try simp only [Act.put, List.getElem_toArray, List.getElem_cons_zero, List.getElem_cons_succ, List.setIfInBounds_toArray, List.set_cons_zero, List.set_cons_succ])
        refine wpAnyH_ready (rs := [7]) (by kernel_rfl) (by simp) ?_
        refine AllReadyH.cons rfl (fun K hK => ?_) ?_
        · go_simp
          (with_reducible refine (bholds_any p a _ (HA.out.no ka3)).mono ?_)
          rintro e u4 ⟨v4, rfl, ho4, hg, -⟩
          obtain ⟨A4, c4, rfl, hl4, hm4⟩ := ho4.form
          have ka4 : Fr No w u4 := Fr.trans ka3 (fr_at_none hg)
          have HO4 := Lib.hid ho4.rd
          clear hg ho4
          refine hK.out _ _ ?_ (fun hH4 => ?_)
          · exact HX.out _ ka4
          clear hK K
          (try simp only [Act.put, List.getElem_toArray, List.getElem_cons_zero, List.getElem_cons_succ, List.setIfInBounds_toArray, List.set_cons_zero, List.set_cons_succ])
          refine wpAnyH_ready (rs := [9]) (by kernel_rfl) (by simp) ?_
          refine AllReadyH.cons rfl (fun K hK => ?_) ?_
          · go_simp
            (with_reducible refine (bholds_any q b _ (HB.out.no ka4)).mono ?_)
            rintro e u5 ⟨v5, rfl, ho5, hg, -⟩
            obtain ⟨A5, c5, rfl, hl5, hm5⟩ := ho5.form
            have ka5 : Fr No w u5 := Fr.trans ka4 (fr_at_none hg)
            have HO45 := Lib.hid (HO4.out.fr (by omega) (fr_at_none hg) (fun _ _ _ h => h))
            have HO5 := Lib.hid ho5.rd
            clear hg ho5
            refine hK.out _ _ ?_ (fun hH5 => ?_)
            · exact HX.out _ ka5
            clear hK K
            (try simp only [Act.put, List.getElem_toArray, List.getElem_cons_zero, List.getElem_cons_succ, List.setIfInBounds_toArray, List.set_cons_zero, List.set_cons_succ])
            refine wpAnyH_ready (rs := [10]) (by kernel_rfl) (by simp) ?_
            refine AllReadyH.cons rfl (fun K hK => ?_) ?_
            · go_simp
              have q1 := equalH_any _ _ A4 A5 c4 c5 a.H b.H u5 HO45.out HO5.out (by have := HA.out.inv.st.len; omega)
              rw [decide_eq_false HDH.out] at q1
              (with_reducible refine q1.mono ?_)
              rintro e u6 ⟨rfl, nr, rfl⟩
              have ka6 : Fr No w (u5.drewN nr) := ka5.drewN nr
              clear q1
              refine hK.out _ _ ?_ (fun hH6 => ?_)
              · exact HX.out _ ka6
              clear hK K
              (try simp only [Act.put, List.getElem_toArray, List.getElem_cons_zero, List.getElem_cons_succ, List.setIfInBounds_toArray, List.set_cons_zero, List.set_cons_succ])
              refine wpAnyH_take (i := 11) (v := ?_) rfl (by kernel_rfl) (by kernel_rfl) (by kernel_rfl) (fun _ _ _ h => h) (Or.inl ⟨by rfl, ?_⟩) hH6 ?_
              rotate_left
              · (intro w hSw; (try dsimp only at hSw); go_simp; try with_reducible rfl)
              (try simp only [Act.put, List.getElem_toArray, List.getElem_cons_zero, List.getElem_cons_succ, List.setIfInBounds_toArray, List.set_cons_zero, List.set_cons_succ])
              refine wpAnyH_take (i := 12) (v := ?_) rfl (by kernel_rfl) (by kernel_rfl) (by kernel_rfl) (fun _ _ _ h => h) (Or.inl ⟨by rfl, ?_⟩) hH6 ?_
              rotate_left
              · (intro w hSw; (try dsimp only at hSw); go_simp; try with_reducible rfl)
              (try simp only [Act.put, List.getElem_toArray, List.getElem_cons_zero, List.getElem_cons_succ, List.setIfInBounds_toArray, List.set_cons_zero, List.set_cons_succ])
              refine wpAnyH_take (i := 13) (v := undef) rfl (by kernel_rfl) (by kernel_rfl) (by kernel_rfl) (fun _ _ _ h => h) (Or.inr ⟨by rfl, rfl⟩) hH6 ?_
              (try simp only [Act.put, List.getElem_toArray, List.getElem_cons_zero, List.getElem_cons_succ, List.setIfInBounds_toArray, List.set_cons_zero, List.set_cons_succ])
              refine wpAnyH_take (i := 14) (v := undef) rfl (by kernel_rfl) (by kernel_rfl) (by kernel_rfl) (fun _ _ _ h => h) (Or.inr ⟨by rfl, rfl⟩) hH6 ?_
              (try simp only [Act.put, List.getElem_toArray, List.getElem_cons_zero, List.getElem_cons_succ, List.setIfInBounds_toArray, List.set_cons_zero, List.set_cons_succ])
              refine wpAnyH_take (i := 15) (v := undef) rfl (by kernel_rfl) (by kernel_rfl) (by kernel_rfl) (fun _ _ _ h => h) (Or.inr ⟨by rfl, rfl⟩) hH6 ?_
              (try simp only [Act.put, List.getElem_toArray, List.getElem_cons_zero, List.getElem_cons_succ, List.setIfInBounds_toArray, List.set_cons_zero, List.set_cons_succ])
              refine wpAnyH_take (i := 16) (v := undef) rfl (by kernel_rfl) (by kernel_rfl) (by kernel_rfl) (fun _ _ _ h => h) (Or.inr ⟨by rfl, rfl⟩) hH6 ?_
              (try simp only [Act.put, List.getElem_toArray, List.getElem_cons_zero, List.getElem_cons_succ, List.setIfInBounds_toArray, List.set_cons_zero, List.set_cons_succ])
              refine wpAnyH_take (i := 17) (v := undef) rfl (by kernel_rfl) (by kernel_rfl) (by kernel_rfl) (fun _ _ _ h => h) (Or.inr ⟨by rfl, rfl⟩) hH6 ?_
              (try simp only [Act.put, List.getElem_toArray, List.getElem_cons_zero, List.getElem_cons_succ, List.setIfInBounds_toArray, List.set_cons_zero, List.set_cons_succ])
              refine wpAnyH_take (i := 18) (v := undef) rfl (by kernel_rfl) (by kernel_rfl) (by kernel_rfl) (fun _ _ _ h => h) (Or.inr ⟨by rfl, rfl⟩) hH6 ?_
              (try simp only [Act.put, List.getElem_toArray, List.getElem_cons_zero, List.getElem_cons_succ, List.setIfInBounds_toArray, List.set_cons_zero, List.set_cons_succ])
              refine wpAnyH_take (i := 19) (v := undef) rfl (by kernel_rfl) (by kernel_rfl) (by kernel_rfl) (fun _ _ _ h => h) (Or.inr ⟨by rfl, rfl⟩) hH6 ?_
              (try simp only [Act.put, List.getElem_toArray, List.getElem_cons_zero, List.getElem_cons_succ, List.setIfInBounds_toArray, List.set_cons_zero, List.set_cons_succ])
              refine wpAnyH_take (i := 20) (v := undef) rfl (by kernel_rfl) (by kernel_rfl) (by kernel_rfl) (fun _ _ _ h => h) (Or.inr ⟨by rfl, rfl⟩) hH6 ?_
              (try simp only [Act.put, List.getElem_toArray, List.getElem_cons_zero, List.getElem_cons_succ, List.setIfInBounds_toArray, List.set_cons_zero, List.set_cons_succ])
              refine wpAnyH_take (i := 21) (v := undef) rfl (by kernel_rfl) (by kernel_rfl) (by kernel_rfl) (fun _ _ _ h => h) (Or.inr ⟨by rfl, rfl⟩) hH6 ?_
              (try simp only [Act.put, List.getElem_toArray, List.getElem_cons_zero, List.getElem_cons_succ, List.setIfInBounds_toArray, List.set_cons_zero, List.set_cons_succ])
              refine wpAnyH_take (i := 22) (v := ?_) rfl (by kernel_rfl) (by kernel_rfl) (by kernel_rfl) (fun _ _ _ h => h) (Or.inl ⟨by rfl, ?_⟩) hH6 ?_
              rotate_left
              · (intro w hSw; (try dsimp only at hSw); go_simp; try with_reducible rfl)
              (try simp only [Act.put, List.getElem_toArray, List.getElem_cons_zero, List.getElem_cons_succ, List.setIfInBounds_toArray, List.set_cons_zero, List.set_cons_succ])
              refine wpAnyH_take (i := 23) (v := ?_) rfl (by kernel_rfl) (by kernel_rfl) (by kernel_rfl) (fun _ _ _ h => h) (Or.inl ⟨by rfl, ?_⟩) hH6 ?_
              rotate_left
              · (intro w hSw; (try dsimp only at hSw); go_simp; try with_reducible rfl)
              (try simp only [Act.put, List.getElem_toArray, List.getElem_cons_zero, List.getElem_cons_succ, List.setIfInBounds_toArray, List.set_cons_zero, List.set_cons_succ])
              refine wpAnyH_done (by kernel_rfl) ?_ _
              go_wp2
              go_ret
              exact ⟨rfl, ka6⟩
            exact AllReadyH.nil
          exact AllReadyH.nil
        exact AllReadyH.nil
      exact AllReadyH.nil
    exact AllReadyH.nil
  exact AllReadyH.nil
set_option maxRecDepth 100000 in
set_option maxHeartbeats 4000000 in
theorem bsameT (p q : Pl) (a b : Bk) (w : World) (ha : BkS w p a) (hb : BkS w q b) (hd : a.S = b.S) (hdh : a.H = b.H) : Calls Tryz.prog 11 #[.pointer (some ⟨p.p, 0, none⟩), .pointer (some ⟨q.p, 0, none⟩)] w fun e w' => e = .returned (.bool (decide (a.cl = b.cl))) ∧ Fr No w w' := by
  have HA := Lib.hid ha
  have HB := Lib.hid hb
  have HD := Lib.hid hd
  have HDH := Lib.hid hdh
  have HX : Hid (∀ W, Fr No w W → Fr No w W ∧ W.cell? ⟨p.p, 2, none⟩ = some (.int .i64 a.cl) ∧ W.cell? ⟨q.p, 2, none⟩ = some (.int .i64 b.cl)) := fun W hW => ⟨hW, (ha.blk.fr hW (fun h => h)).cell 2, (hb.blk.fr hW (fun h => h)).cell 2⟩
  have hw : Fr No w w.drew := (Fr.refl _ w).drew
  clear ha hb hd hdh
  go_enter Tryz.func11, Tryz.ntmps11
  go_upto_region 3 with (fail)
  refine wp_region_held_drew (S := fun W => Fr No w W ∧ W.cell? ⟨p.p, 2, none⟩ = some (.int .i64 a.cl) ∧ W.cell? ⟨q.p, 2, none⟩ = some (.int .i64 b.cl)) (by kernel_rfl) ?_ (fun hH0 => ?_)
  · exact HX.out _ hw
  refine wpAnyH_take (i := 0) (v := ?_) rfl (by kernel_rfl) (by kernel_rfl) (by kernel_rfl) (fun _ _ _ h => h) (Or.inl ⟨by rfl, ?_⟩) hH0 ?_
  rotate_left
  · (intro w hSw; (try dsimp only at hSw); go_simp; try with_reducible rfl)
  (try simp only [Act.put, List.getElem_toArray, List.getElem_cons_zero, List.getElem_cons_succ, List.setIfInBounds_toArray, List.set_cons_zero, List.set_cons_succ])
  refine wpAnyH_take (i := 2) (v := ?_) rfl (by kernel_rfl) (by kernel_rfl) (by kernel_rfl) (fun _ _ _ h => h) (Or.inl ⟨by rfl, ?_⟩) hH0 ?_
  rotate_left
  · (intro w hSw; (try dsimp only at hSw); go_simp; try with_reducible rfl)
  (try simp only [Act.put, List.getElem_toArray, List.getElem_cons_zero, List.getElem_cons_succ, List.setIfInBounds_toArray, List.set_cons_zero, List.set_cons_succ])
  refine wpAnyH_ready (rs := [1]) (by kernel_rfl) (by simp) ?_
  refine AllReadyH.cons rfl (fun K hK => ?_) ?_
  · go_simp
    (with_reducible refine (baccts_any p a _ (HA.out.no hw)).mono ?_)
    rintro e u1 ⟨v1, rfl, ho1, hg, -⟩
    obtain ⟨A1, c1, rfl, hl1, hm1⟩ := ho1.form
    have ka1 : Fr No w u1 := Fr.trans hw (fr_at_none hg)
    have HO1 := Lib.hid ho1.rd
    clear hg ho1
    refine hK.out _ _ ?_ (fun hH1 => ?_)
    · exact HX.out _ ka1
    clear hK K
    (try simp only [Act.put, List.getElem_toArray, List.getElem_cons_zero, List.getElem_cons_succ, List.setIfInBounds_toArray, List.set_cons_zero, List.set_cons_succ])
    refine wpAnyH_ready (rs := [3]) (by kernel_rfl) (by simp) ?_
    refine AllReadyH.cons rfl (fun K hK => ?_) ?_
    · go_simp
      (with_reducible refine (baccts_any q b _ (HB.out.no ka1)).mono ?_)
      rintro e u2 ⟨v2, rfl, ho2, hg, -⟩
      obtain ⟨A2, c2, rfl, hl2, hm2⟩ := ho2.form
      have ka2 : Fr No w u2 := Fr.trans ka1 (fr_at_none hg)
      have HO12 := Lib.hid (HO1.out.fr (by omega) (fr_at_none hg) (fun _ _ _ h => h))
      have HO2 := Lib.hid ho2.rd
      clear hg ho2
      refine hK.out _ _ ?_ (fun hH2 => ?_)
      · exact HX.out _ ka2
      clear hK K
      (try simp only [Act.put, List.getElem_toArray, List.getElem_cons_zero, List.getElem_cons_succ, List.setIfInBounds_toArray, List.set_cons_zero, List.set_cons_succ])
      refine wpAnyH_ready (rs := [4]) (by kernel_rfl) (by simp) ?_
      refine AllReadyH.cons rfl (fun K hK => ?_) ?_
      · go_simp
        have q1 := equalA_any _ _ A1 A2 c1 c2 a.S b.S u2 HO12.out HO2.out (by have := HA.out.inv.st.kp.inv.len; omega)
        rw [decide_eq_true HD.out] at q1
        (with_reducible refine q1.mono ?_)
        rintro e u3 ⟨rfl, nq, rfl⟩
        have ka3 : Fr No w (u2.drewN nq) := ka2.drewN nq
        clear q1
        refine hK.out _ _ ?_ (fun hH3 => ?_)
        · exact HX.out _ ka3
        clear hK K
        (try simp only [Act.put, List.getElem_toArray, List.getElem_cons_zero, List.getElem_cons_succ, List.setIfInBounds_toArray, List.set_cons_zero, List.set_cons_succ])
        refine wpAnyH_take (i := 5) (v := ?_) rfl (by kernel_rfl) (by kernel_rfl) (by kernel_rfl) (fun _ _ _ h => h) (Or.inl ⟨by rfl, ?_⟩) hH3 ?_
        rotate_left
        · (intro w hSw; (try dsimp only at hSw); go_simp; try with_reducible rfl)
        (try simp only [Act.put, List.getElem_toArray, List.getElem_cons_zero, List.getElem_cons_succ, List.setIfInBounds_toArray, List.set_cons_zero, List.set_cons_succ])
        refine wpAnyH_take (i := 6) (v := ?_) rfl (by kernel_rfl) (by kernel_rfl) (by kernel_rfl) (fun _ _ _ h => h) (Or.inl ⟨by rfl, ?_⟩) hH3 ?_
        rotate_left
        · (intro w hSw; (try dsimp only at hSw); go_simp; try with_reducible rfl)
        (try simp only [Act.put, List.getElem_toArray, List.getElem_cons_zero, List.getElem_cons_succ, List.setIfInBounds_toArray, List.set_cons_zero, List.set_cons_succ])
        refine wpAnyH_take (i := 8) (v := ?_) rfl (by kernel_rfl) (by kernel_rfl) (by kernel_rfl) (fun _ _ _ h => h) (Or.inl ⟨by rfl, ?_⟩) hH3 ?_
        rotate_left
        · (intro w hSw; (try dsimp only at hSw); go_simp; try with_reducible rfl)
        (try simp only [Act.put, List.getElem_toArray, List.getElem_cons_zero, List.getElem_cons_succ, List.setIfInBounds_toArray, List.set_cons_zero, List.set_cons_succ])
        refine wpAnyH_ready (rs := [7]) (by kernel_rfl) (by simp) ?_
        refine AllReadyH.cons rfl (fun K hK => ?_) ?_
        · go_simp
          (with_reducible refine (bholds_any p a _ (HA.out.no ka3)).mono ?_)
          rintro e u4 ⟨v4, rfl, ho4, hg, -⟩
          obtain ⟨A4, c4, rfl, hl4, hm4⟩ := ho4.form
          have ka4 : Fr No w u4 := Fr.trans ka3 (fr_at_none hg)
          have HO4 := Lib.hid ho4.rd
          clear hg ho4
          refine hK.out _ _ ?_ (fun hH4 => ?_)
          · exact HX.out _ ka4
          clear hK K
          (try simp only [Act.put, List.getElem_toArray, List.getElem_cons_zero, List.getElem_cons_succ, List.setIfInBounds_toArray, List.set_cons_zero, List.set_cons_succ])
          refine wpAnyH_ready (rs := [9]) (by kernel_rfl) (by simp) ?_
          refine AllReadyH.cons rfl (fun K hK => ?_) ?_
          · go_simp
            (with_reducible refine (bholds_any q b _ (HB.out.no ka4)).mono ?_)
            rintro e u5 ⟨v5, rfl, ho5, hg, -⟩
            obtain ⟨A5, c5, rfl, hl5, hm5⟩ := ho5.form
            have ka5 : Fr No w u5 := Fr.trans ka4 (fr_at_none hg)
            have HO45 := Lib.hid (HO4.out.fr (by omega) (fr_at_none hg) (fun _ _ _ h => h))
            have HO5 := Lib.hid ho5.rd
            clear hg ho5
            refine hK.out _ _ ?_ (fun hH5 => ?_)
            · exact HX.out _ ka5
            clear hK K
            (try simp only [Act.put, List.getElem_toArray, List.getElem_cons_zero, List.getElem_cons_succ, List.setIfInBounds_toArray, List.set_cons_zero, List.set_cons_succ])
            refine wpAnyH_ready (rs := [10]) (by kernel_rfl) (by simp) ?_
            refine AllReadyH.cons rfl (fun K hK => ?_) ?_
            · go_simp
              have q1 := equalH_any _ _ A4 A5 c4 c5 a.H b.H u5 HO45.out HO5.out (by have := HA.out.inv.st.len; omega)
              rw [decide_eq_true HDH.out] at q1
              (with_reducible refine q1.mono ?_)
              rintro e u6 ⟨rfl, nr, rfl⟩
              have ka6 : Fr No w (u5.drewN nr) := ka5.drewN nr
              clear q1
              refine hK.out _ _ ?_ (fun hH6 => ?_)
              · exact HX.out _ ka6
              clear hK K
              (try simp only [Act.put, List.getElem_toArray, List.getElem_cons_zero, List.getElem_cons_succ, List.setIfInBounds_toArray, List.set_cons_zero, List.set_cons_succ])
              refine wpAnyH_take (i := 11) (v := ?_) rfl (by kernel_rfl) (by kernel_rfl) (by kernel_rfl) (fun _ _ _ h => h) (Or.inl ⟨by rfl, ?_⟩) hH6 ?_
              rotate_left
              · (intro w hSw; (try dsimp only at hSw); go_simp; try with_reducible rfl)
              (try simp only [Act.put, List.getElem_toArray, List.getElem_cons_zero, List.getElem_cons_succ, List.setIfInBounds_toArray, List.set_cons_zero, List.set_cons_succ])
              refine wpAnyH_take (i := 12) (v := ?_) rfl (by kernel_rfl) (by kernel_rfl) (by kernel_rfl) (fun _ _ _ h => h) (Or.inl ⟨by rfl, ?_⟩) hH6 ?_
              rotate_left
              · (intro w hSw; (try dsimp only at hSw); go_simp; try with_reducible rfl)
              (try simp only [Act.put, List.getElem_toArray, List.getElem_cons_zero, List.getElem_cons_succ, List.setIfInBounds_toArray, List.set_cons_zero, List.set_cons_succ])
              refine wpAnyH_take (i := 13) (v := ?_) rfl (by kernel_rfl) (by kernel_rfl) (by kernel_rfl) (fun _ _ _ h => h) (Or.inl ⟨by rfl, ?_⟩) hH6 ?_
              rotate_left
              · (intro w hSw; (try dsimp only at hSw); go_simp; try with_reducible rfl)
              (try simp only [Act.put, List.getElem_toArray, List.getElem_cons_zero, List.getElem_cons_succ, List.setIfInBounds_toArray, List.set_cons_zero, List.set_cons_succ])
              refine wpAnyH_take (i := 14) (v := ?_) rfl (by kernel_rfl) (by kernel_rfl) (by kernel_rfl) (fun _ _ _ h => h) (Or.inl ⟨by rfl, ?_⟩) hH6 ?_
              rotate_left
              · (intro w hSw; (try dsimp only at hSw); go_simp; try with_reducible rfl)
              (try simp only [Act.put, List.getElem_toArray, List.getElem_cons_zero, List.getElem_cons_succ, List.setIfInBounds_toArray, List.set_cons_zero, List.set_cons_succ])
              refine wpAnyH_take (i := 15) (v := ?_) rfl (by kernel_rfl) (by kernel_rfl) (by kernel_rfl) (fun _ _ _ h => h) (Or.inl ⟨by rfl, ?_⟩) hH6 ?_
              rotate_left
              · (intro w hSw; (try dsimp only at hSw); go_simp; try with_reducible rfl)
              (try simp only [Act.put, List.getElem_toArray, List.getElem_cons_zero, List.getElem_cons_succ, List.setIfInBounds_toArray, List.set_cons_zero, List.set_cons_succ])
              refine wpAnyH_take (i := 16) (v := ?_) rfl (by kernel_rfl) (by kernel_rfl) (by kernel_rfl) (fun _ _ _ h => h) (Or.inl ⟨by rfl, ?_⟩) hH6 ?_
              rotate_left
              · (intro w hSw; (try dsimp only at hSw); go_simp; try with_reducible rfl)
              (try simp only [Act.put, List.getElem_toArray, List.getElem_cons_zero, List.getElem_cons_succ, List.setIfInBounds_toArray, List.set_cons_zero, List.set_cons_succ])
              refine wpAnyH_take (i := 17) (v := ?_) rfl (by kernel_rfl) (by kernel_rfl) (by kernel_rfl) (fun _ _ _ h => h) (Or.inl ⟨by rfl, ?_⟩) hH6 ?_
              rotate_left
              · (intro w hSw; (try dsimp only at hSw); go_simp; try with_reducible rfl)
              (try simp only [Act.put, List.getElem_toArray, List.getElem_cons_zero, List.getElem_cons_succ, List.setIfInBounds_toArray, List.set_cons_zero, List.set_cons_succ])
              refine wpAnyH_take (i := 18) (v := ?_) rfl (by kernel_rfl) (by kernel_rfl) (by kernel_rfl) (fun _ _ _ h => h) (Or.inl ⟨by rfl, ?_⟩) hH6 ?_
              rotate_left
              · (intro w hSw; (try dsimp only at hSw); go_simp; try with_reducible rfl)
              (try simp only [Act.put, List.getElem_toArray, List.getElem_cons_zero, List.getElem_cons_succ, List.setIfInBounds_toArray, List.set_cons_zero, List.set_cons_succ])
              refine wpAnyH_take (i := 19) (v := ?_) rfl (by kernel_rfl) (by kernel_rfl) (by kernel_rfl) (fun _ _ _ h => h) (Or.inl ⟨by rfl, ?_⟩) hH6 ?_
              rotate_left
              · (intro w hSw; (try dsimp only at hSw); go_simp; try with_reducible rfl)
              (try simp only [Act.put, List.getElem_toArray, List.getElem_cons_zero, List.getElem_cons_succ, List.setIfInBounds_toArray, List.set_cons_zero, List.set_cons_succ])
              refine wpAnyH_take (i := 20) (v := ?_) rfl (by kernel_rfl) (by kernel_rfl) (by kernel_rfl) (fun _ _ _ h => h) (Or.inl ⟨by rfl, ?_⟩) hH6 ?_
              rotate_left
              · (intro w hSw; (try dsimp only at hSw); go_simp; try with_reducible rfl)
              (try simp only [Act.put, List.getElem_toArray, List.getElem_cons_zero, List.getElem_cons_succ, List.setIfInBounds_toArray, List.set_cons_zero, List.set_cons_succ])
              refine wpAnyH_take (i := 21) (v := ?_) rfl (by kernel_rfl) (by kernel_rfl) (by kernel_rfl) (fun _ _ _ h => h) (Or.inl ⟨by rfl, ?_⟩) hH6 ?_
              rotate_left
              · (intro w hSw; (try dsimp only at hSw); go_simp; try with_reducible rfl)
              (try simp only [Act.put, List.getElem_toArray, List.getElem_cons_zero, List.getElem_cons_succ, List.setIfInBounds_toArray, List.set_cons_zero, List.set_cons_succ])
              refine wpAnyH_take (i := 22) (v := ?_) rfl (by kernel_rfl) (by kernel_rfl) (by kernel_rfl) (fun _ _ _ h => h) (Or.inl ⟨by rfl, ?_⟩) hH6 ?_
              rotate_left
              · (intro w hSw; (try dsimp only at hSw); go_simp; try with_reducible rfl)
              (try simp only [Act.put, List.getElem_toArray, List.getElem_cons_zero, List.getElem_cons_succ, List.setIfInBounds_toArray, List.set_cons_zero, List.set_cons_succ])
              refine wpAnyH_take (i := 23) (v := ?_) rfl (by kernel_rfl) (by kernel_rfl) (by kernel_rfl) (fun _ _ _ h => h) (Or.inl ⟨by rfl, ?_⟩) hH6 ?_
              rotate_left
              · (intro w hSw; (try dsimp only at hSw); go_simp; try with_reducible rfl)
              (try simp only [Act.put, List.getElem_toArray, List.getElem_cons_zero, List.getElem_cons_succ, List.setIfInBounds_toArray, List.set_cons_zero, List.set_cons_succ])
              refine wpAnyH_done (by kernel_rfl) ?_ _
              go_wp2
              go_ret
              exact ⟨rfl, ka6⟩
            exact AllReadyH.nil
          exact AllReadyH.nil
        exact AllReadyH.nil
      exact AllReadyH.nil
    exact AllReadyH.nil
  exact AllReadyH.nil
theorem bsame_any (p q : Pl) (a b : Bk) (w : World) (ha : BkS w p a) (hb : BkS w q b) : Calls Tryz.prog 11 #[.pointer (some ⟨p.p, 0, none⟩), .pointer (some ⟨q.p, 0, none⟩)] w fun e w' => e = .returned (.bool (sameBk a b)) ∧ Fr No w w' := by
  unfold sameBk
  by_cases h1 : a.S = b.S
  · by_cases h2 : a.H = b.H
    · refine (bsameT p q a b w ha hb h1 h2).mono fun e w' h => ⟨?_, h.2⟩
      rw [h.1]
      simp only [h1, h2, true_and]
    · refine (bsameH p q a b w ha hb h1 h2).mono fun e w' h => ⟨?_, h.2⟩
      rw [h.1, decide_eq_false (fun e => h2 e.2.1)]
  · refine (bsameA p q a b w ha hb h1).mono fun e w' h => ⟨?_, h.2⟩
    rw [h.1, decide_eq_false (fun e => h1 e.1)]
theorem bsame_nil (w : World) : Calls Tryz.prog 11 #[.pointer none, .pointer none] w fun e w' => e = .returned (.bool true) ∧ w' = w := by
  go_enter Tryz.func11, Tryz.ntmps11
  go_wp2
  go_ret
  exact ⟨rfl, rfl⟩
theorem bsame_nilR (p : Nat) (w : World) : Calls Tryz.prog 11 #[.pointer (some ⟨p, 0, none⟩), .pointer none] w fun e w' => e = .returned (.bool false) ∧ w' = w := by
  go_enter Tryz.func11, Tryz.ntmps11
  go_wp2
  go_ret
  exact ⟨rfl, rfl⟩
end Go.Proofs.YtkkhdjchfhmliaaGreat

namespace Go.Proofs.YtkkhdjchfhmliaaGreat
open Go.RowKit Go.My Go.Maps
set_option linter.unusedSimpArgs false
set_option linter.unusedVariables false
attribute [local go_sem ↓] Go.wp_at_zero Go.wp_at_succ

/-- a row of replies is no block of a book -/
theorem own_farB {w : World} {q : Pl} {b : Bk} {v : Value} {n : Nat} {xs : List Value} (ho : Own w 42 4 v n xs) (h : BkS w q b) : ∀ i, q.all i → v.ownBlock ≠ some i := fun i hi hk => by
  obtain ⟨cur, hc⟩ := ho.blk i hk
  rcases hi with rfl | rfl | rfl | rfl | rfl
  · exact Blk.ne_ h.blk hc (by decide) rfl
  · exact Blk.ne_ h.ch.1 hc (by decide) rfl
  · exact h.ch.2.ne_ hc rfl
  · exact Blk.ne_ h.hd.1 hc (by decide) rfl
  · exact h.hd.2.ne_ hc rfl
def FoRel (w : World) (q : Pl) (l : List Od) (lv iv : Value) (wr : World) : Prop :=
  ∃ k : Nat, k ≤ l.length ∧ iv = .int .i64 k ∧ Own wr 42 4 lv k (rps (foldR bk0 (l.take k))) ∧ BkS wr q (foldB bk0 (l.take k)) ∧ Fr No w wr ∧ Newer w.heap.size none lv.ownBlock
theorem fold_take (b : Bk) (l : List Od) (k : Nat) (hk : k < l.length) : foldR b (l.take (k + 1)) = foldR b (l.take k) ++ [doR (foldB b (l.take k)) l[k]] ∧ foldB b (l.take (k + 1)) = doB (foldB b (l.take k)) l[k] := by
  rw [List.take_succ_eq_append_getElem hk]
  exact ⟨foldR_append _ _ _, foldB_append _ _ _⟩
/-- what Fold hands back: replies, and a book -/
def FoldRet (w : World) (l : List Od) (e : Ending) (w' : World) : Prop := ∃ A c q, e = .returned (.tuple #[.slice A l.length c, .pointer (some ⟨q.p, 0, none⟩)]) ∧ Rd w' (fun k => w.heap.size ≤ k) 4 A l.length (rps (foldR bk0 l)) ∧ BkS w' q (foldB bk0 l) ∧ Fr No w w' ∧ (∀ i, Pl.all q i → w.heap.size ≤ i) ∧ l.length ≤ c ∧ c ≤ maxLen
set_option maxRecDepth 100000 in
set_option maxHeartbeats 4000000 in
theorem fold_any (w0 w : World) (F : Nat → Prop) (A : Option Addr) (c : Nat) (l : List Od) (hl : OdsS w0 w F A l) (hb0 : Below w0.heap.size w0 w) (hlc : l.length ≤ 1000) :
    Calls Tryz.prog 9 #[.slice A l.length c] w (FoldRet w l) := by
  have HL : Hid (OdsS w0 w (Lt w.heap.size) A l) := by
    obtain ⟨cells, hr, hE⟩ := hl
    exact ⟨cells, rd_lt hr (by omega), hE⟩
  have HB0 := Lib.hid hb0
  have HNEW := Lib.hid (newB_any w)
  have hlm : l.length ≤ 1000 := hlc
  clear hl hb0 hlc
  go_enter Tryz.func9, Tryz.ntmps9
  go_wp2_with fail
  (with_reducible refine HNEW.out.mono ?_)
  rintro e w1 ⟨q, rfl, hb1, hf1, hq1⟩
  have HF1 := Lib.hid hf1
  have HQ := Lib.hid hq1
  have HB1 := Lib.hid hb1
  clear hf1 hq1 hb1 HNEW
  go_wp2
  go_loopw [5, 11] (fun lv iv wr => FoRel w q l lv iv wr) (fun _ iv _ => l.length - (intOf iv).toNat)
  case atStart => exact ⟨0, Nat.zero_le _, rfl, Own.nil _ _ _, HB1.out, HF1.out, .inl rfl⟩
  case round =>
    obtain ⟨k, hk, rfl, hown, hbk, hfr, hnew⟩ := hrel
    by_cases hlt : k < l.length
    · obtain ⟨ad, v, rfl, _, hok, hg, hL, q0, q1, q2, q3, q4, q5, q6, q7, q8, q9⟩ := (HL.out.below hfr.belowNo (fun _ h => h)).at_ k hlt
      obtain ⟨B, d, rfl, hd1, hd2⟩ := hL.form
      obtain ⟨E1, E2⟩ := fold_take bk0 l k hlt
      have hW : ∀ W, Fr No wr W → Below w0.heap.size w0 W := fun W h => (HB0.out.trans (hfr.belowNo.mono HB0.out.size)).trans (h.belowNo.mono (by have := hfr.size; have := HB0.out.size; omega))
      have hFF : ∀ W, Fr No wr W → ∀ k, Lt w0.heap.size k → k < W.heap.size ∧ k ≠ q.m := fun W h k hk => by
        have h1 : k < w0.heap.size := hk
        have h2 := (hW W h).size
        have h3 := HQ.out q.m (.inr (.inr (.inl rfl)))
        have h4 := HB0.out.size
        exact ⟨by omega, by omega⟩
      have HDO : Hid (∀ W, Fr No wr W → Calls Tryz.prog 19 #[.pointer (some ⟨q.p, 0, none⟩), l[k].val (.slice B l[k].legs.length d)] W (DidB q (doR (foldB bk0 (l.take k)) l[k]) (doB (foldB bk0 (l.take k)) l[k]) W)) := fun W h =>
        do_any _ q _ l[k] _ W (hbk.no h) hok (hL.below (hW W h)) (hFF W h)
      rw [← E2] at HDO
      generalize doR (foldB bk0 (l.take k)) l[k] = R at *
      obtain ⟨re, rh, rs, rn⟩ := R
      have HE1 : Hid (rps (foldR bk0 (l.take (k + 1))) = rps (foldR bk0 (l.take k)) ++ [.int .i64 re, .int .i64 rh, .int .i64 rs, .int .i64 rn]) := by
        show _ = _
        rw [E1, rps_append, rps_one]
        rfl
      have HDX : Hid (∀ W, Fr No wr W → Calls Tryz.prog 19 #[.pointer (some ⟨q.p, 0, none⟩), .agg #[.int .i64 l[k].cl, .int .i64 l[k].sq, .int .i64 l[k].kd, .string l[k].acct, .string l[k].peer, .int .i64 l[k].sum, .slice B l[k].legs.length d, .int .i64 l[k].per, .int .i64 l[k].hold, .string l[k].note]] W fun e w' => e = .returned (.agg #[.int .i64 re, .int .i64 rh, .int .i64 rs, .int .i64 rn]) ∧ BkS w' q (foldB bk0 (l.take (k + 1))) ∧ Fr q.wr W w') := fun W h => HDO.out W h
      have hX : Hid (k + 1 ≤ maxLen ∧ (k + 1) * 32 ≤ 140737488355328) := by
        refine ⟨?_, ?_⟩ <;> (try simp only [maxLen]) <;> omega
      have HBK := Lib.hid hbk
      have HFR := Lib.hid hfr
      have HOW := Lib.hid hown
      clear HDO E1 E2 hW hFF hok hg hL hbk hfr hown
      generalize hRS : foldR bk0 (l.take (k + 1)) = RS' at *
      have HRS := Lib.hid hRS
      clear hRS
      generalize foldR bk0 (l.take k) = RS at *
      generalize hbb : foldB bk0 (l.take (k + 1)) = bb' at *
      have HBB := Lib.hid hbb
      clear hbb
      generalize foldB bk0 (l.take k) = bb at *
      generalize l[k].legs = L at *
      generalize l[k].cl = cl at *
      generalize l[k].sq = sq at *
      generalize l[k].kd = kd at *
      generalize l[k].acct = acct at *
      generalize l[k].peer = peer at *
      generalize l[k].sum = sum at *
      generalize l[k].per = per at *
      generalize l[k].hold = hold at *
      generalize l[k].note = note at *
      go_wp2_with fail
      (with_reducible refine (HDX.out _ ((Fr.refl _ wr).alloc _)).mono ?_)
      rintro e w5 ⟨rfl, hb5, hg5⟩
      have hfar := own_farB HOW.out HBK.out
      have how5 := (HOW.out.alloc (.cells #[.int .i64 cl, .int .i64 sq, .int .i64 kd, .string acct, .string peer, .int .i64 sum, .slice B L.length d, .int .i64 per, .int .i64 hold, .string note] 39)).fr hg5 (fun i hi h => hfar i (Pl.wr_all h) hi)
      have HFAR := Lib.hid (own_farB how5 hb5)
      have HB5 := Lib.hid hb5
      have HW5 := Lib.hid how5
      have HF5 : Hid (Fr No w w5) := (HFR.out.alloc (.cells #[.int .i64 cl, .int .i64 sq, .int .i64 kd, .string acct, .string peer, .int .i64 sum, .slice B L.length d, .int .i64 per, .int .i64 hold, .string note] 39)).trans' hg5 (fun i hi hlt => absurd (HQ.out i (Pl.wr_all hi)) (by omega))
      clear hfar how5 hb5 hg5 q0 q1 q2 q3 q4 q5 q6 q7 q8 q9
      go_wp2_with (at_builtin; refine wpList_app _ rfl (.tmp 15) (.tmp 19) 28 28 rfl elR (HW5.out.alloc _) rfl (Src.of_new w5.heap.size (heap_alloc_new w5 _) Tryz.underlying28 rfl (by simp [Value.oneCell'])) rfl hX.out.1 hX.out.2 ?_; intro v1 w3 hown3 hfr3 hnew3)
      go_roundw
      case rel =>
        refine ⟨k + 1, by omega, by go_num, ?_, ?_, ?_, ?_⟩
        · rw [HRS.out, HE1.out]
          exact hown3
        · rw [HBB.out]
          exact (HB5.out.no ((Fr.refl _ _).alloc _)).fr hfr3 (fun i hi h => HFAR.out i hi h)
        · exact fr_no (HF5.out.alloc _) hnew hfr3
        · exact hnew.trans (Newer.of hnew3) (by have := HF5.out.size; simp; omega)
      case measure => simp [intOf]; omega
    · obtain rfl : k = l.length := by omega
      rw [List.take_length] at hown hbk
      obtain ⟨A1, c1, rfl, hl1, hm1⟩ := hown.form
      have HR := Lib.hid (hown.rd.more (G := fun k => w.heap.size ≤ k) fun k hk => newer_none hnew k hk)
      have HBK := Lib.hid hbk
      have HFR := Lib.hid hfr
      clear hown hbk hfr hnew
      go_wp2
      go_ret2
      exact ⟨A1, c1, q, rfl, HR.out, HBK.out, HFR.out, HQ.out, hl1, hm1⟩
end Go.Proofs.YtkkhdjchfhmliaaGreat
