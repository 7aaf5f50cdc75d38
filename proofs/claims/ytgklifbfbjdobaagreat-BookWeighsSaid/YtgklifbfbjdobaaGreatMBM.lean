/- A book's accounts and holds, as lists: what is set aside of an account is what its holds have together, whatever names there are. What a book tells of an order, and what it has behind it: in lists. Of no walk. A book's accounts have names that may be. What who asks is told. In lists. -/
import Derived.Test.YtgklifbfbjdobaaGreatMH
import Derived.Test.YtgklifbfbjdobaaGreatMO
namespace Go.Proofs.YtgklifbfbjdobaaGreat
open Go.RowKit Go.My Go.Maps
set_option linter.unusedSimpArgs false
set_option linter.unusedVariables false

structure KpB (S : List Ac) (H : List Hd) : Prop where
  inv : Inv S
  snd : ∀ nm a, getA S nm = some a → -a.lim ≤ a.hv - a.st
  set : ∀ nm a, getA S nm = some a → heldOf H nm = a.st
  own : ∀ h ∈ H, (getA S h.acct).isSome = true
theorem KpB.good {S : List Ac} {H : List Hd} (h : KpB S H) : Snd S := fun a ha => h.snd a.name a (getA_mem h.inv.rise ha)
theorem KpB.upd {S : List Ac} {H H' : List Hd} (h : KpB S H) {k : List UInt8} {c c' : Ac} (hg : getA S k = some c) (hn : c'.name = c.name) (hI : Inv (putA c' S)) (hs : -c'.lim ≤ c'.hv - c'.st) (hH : ∀ nm, heldOf H' nm = heldOf H nm + if nm = k then c'.st - c.st else 0) (hO : ∀ x ∈ H', x ∈ H ∨ x.acct = k) : KpB (putA c' S) H' where
  inv := hI
  snd nm a ha := by
    rw [getA_upd hg hn] at ha
    by_cases e : nm = k
    · rw [if_pos e] at ha
      injection ha with ha
      subst ha
      exact hs
    · rw [if_neg e] at ha
      exact h.snd nm a ha
  set nm a ha := by
    rw [getA_upd hg hn] at ha
    rw [hH]
    by_cases e : nm = k
    · rw [if_pos e] at ha ⊢
      injection ha with ha
      subst ha
      have := h.set k c hg
      rw [e]
      omega
    · rw [if_neg e] at ha ⊢
      have := h.set nm a ha
      omega
  own x hx := by
    rw [getA_upd hg hn]
    by_cases e : x.acct = k
    · rw [if_pos e]; rfl
    · rw [if_neg e]
      rcases hO x hx with h1 | h1
      · exact h.own x h1
      · exact absurd h1 e
theorem KpB.give {S : List Ac} {H : List Hd} (h : KpB S H) (nm : List UInt8) (x : Int) : KpB (actS (fun a => giveE a x) (fun a => giveA a x) S nm) H := by
  have hI := inv_give h.inv nm x
  unfold actS at hI ⊢
  cases hg : getA S nm with
  | none => exact h
  | some a =>
    rw [hg] at hI
    simp only at hI ⊢
    by_cases h0 : giveE a x = 0
    · rw [if_pos h0] at hI ⊢
      have e : giveA a x = { a with hv := a.hv - x } := by unfold giveA; rw [if_pos h0]
      rw [e] at hI ⊢
      refine h.upd hg rfl hI ?_ (fun k => by simp) (fun y hy => .inl hy)
      have h1 := h.snd nm a hg
      unfold giveE at h0
      split at h0
      · split at h0
        · cases h0
        · rename_i h2
          unfold freeB at h2
          simp only [decide_eq_false_iff_not, not_and, Classical.not_not] at h2
          simp only
          by_cases hx : 0 < x
          · have := h2 hx; omega
          · omega
      · cases h0
    · rw [if_neg h0]
      exact h
theorem KpB.leg {S : List Ac} {H : List Hd} (h : KpB S H) (g : Lg) : KpB (legS S g) H := by
  unfold legS
  split
  · exact h.give _ _
  · exact h
theorem KpB.legs {S : List Ac} {H : List Hd} (h : KpB S H) (L : List Lg) : KpB (legsS S L) H := by
  induction L generalizing S with
  | nil => exact h
  | cons g r ih =>
    unfold legsS
    split
    · exact ih (h.leg g)
    · exact h
theorem KpB.make {S : List Ac} {H : List Hd} (h : KpB S H) (L : List Lg) : KpB (makeS S L) H := by
  unfold makeS
  split
  · exact h.legs L
  · exact h
theorem KpB.aside {S : List Ac} {H H' : List Hd} (h : KpB S H) {nm : List UInt8} {x : Int} (h0 : asdE S nm x = 0) (hH : ∀ k, heldOf H' k = heldOf H k + if k = nm then x else 0) (hO : ∀ y ∈ H', y ∈ H ∨ y.acct = nm) : KpB (asdS S nm x) H' := by
  have hI := inv_aside h.inv nm x
  unfold asdE actE at h0
  unfold asdS actS at hI ⊢
  cases hg : getA S nm with
  | none => rw [hg] at h0; cases h0
  | some a =>
    rw [hg] at hI h0
    simp only at hI h0 ⊢
    rw [if_pos h0] at hI ⊢
    have e : asideA a x = { a with st := a.st + x } := by unfold asideA; rw [if_pos h0]
    rw [e] at hI ⊢
    refine h.upd hg rfl hI ?_ (fun k => by rw [hH k]; simp only; split <;> omega) hO
    have h1 := h.snd nm a hg
    unfold asideE at h0
    split at h0
    · split at h0
      · cases h0
      · rename_i h2
        unfold freeB at h2
        simp only [decide_eq_false_iff_not, not_and, Classical.not_not] at h2
        simp only
        by_cases hx : 0 < x
        · have := h2 hx; omega
        · omega
    · cases h0
theorem heldOf_none {S : List Ac} {H : List Hd} (h : KpB S H) {nm : List UInt8} (hg : getA S nm = none) : heldOf H nm = 0 := by
  have : ofH H nm = [] := by
    unfold ofH
    rw [List.filter_eq_nil_iff]
    intro x hx he
    have h1 := h.own x hx
    have h2 : x.acct = nm := by simpa using he
    rw [h2, hg] at h1
    cases h1
  unfold heldOf
  rw [this]
  rfl
theorem KpB.open {S : List Ac} {H : List Hd} (h : KpB S H) (nm : List UInt8) (lim : Int) (hl : In64 lim) : KpB (openS S nm lim) H := by
  have hI := inv_open h.inv nm lim hl
  unfold openS at hI ⊢
  by_cases h0 : openE S nm lim = 0
  · rw [if_pos h0] at hI ⊢
    have h1 : getA S nm = none ∧ 0 ≤ lim := by
      unfold openE at h0
      split at h0
      · cases h0
      · rename_i h1
        split at h0
        · cases h0
        · rename_i h2
          exact ⟨by simpa using h2, by omega⟩
    have hget : ∀ k, getA (putA ⟨nm, 0, 0, lim⟩ S) k = if k = nm then some ⟨nm, 0, 0, lim⟩ else getA S k := fun k => by
      by_cases e : k = nm
      · rw [if_pos e, e]
        exact getA_put_same S ⟨nm, 0, 0, lim⟩
      · rw [if_neg e]
        exact getA_put_other S ⟨nm, 0, 0, lim⟩ k (fun e2 => e e2)
    refine ⟨hI, fun k a ha => ?_, fun k a ha => ?_, fun x hx => ?_⟩
    · rw [hget] at ha
      by_cases e : k = nm
      · rw [if_pos e] at ha
        injection ha with ha
        subst ha
        simp only
        omega
      · rw [if_neg e] at ha
        exact h.snd k a ha
    · rw [hget] at ha
      by_cases e : k = nm
      · rw [if_pos e] at ha
        injection ha with ha
        subst ha
        rw [e]
        exact heldOf_none h h1.1
      · rw [if_neg e] at ha
        exact h.set k a ha
    · rw [hget]
      by_cases e : x.acct = nm
      · rw [if_pos e]; rfl
      · rw [if_neg e]; exact h.own x hx
  · rw [if_neg h0]
    exact h
/-- a book's accounts and holds -/
structure StB (S : List Ac) (H : List Hd) : Prop where
  kp : KpB S H
  pos : PosH H
  rise : RiseH H
  few : ∀ nm, (ofH H nm).length ≤ 8
theorem StB.none : StB [] [] :=
  { kp := { inv := inv0, snd := (fun nm a h => by cases h), set := (fun nm a h => by cases h), own := (fun h hh => by cases hh) }
    pos := (fun h hh => by cases hh)
    rise := List.Pairwise.nil
    few := (fun nm => by simp [ofH]) }
theorem StB.del {S S' : List Ac} {H : List Hd} {a : List UInt8} {n : Int} (h : StB S H) (hk : KpB S' (delH H a n)) : StB S' (delH H a n) :=
  ⟨hk, fun y hy => h.pos y (List.mem_filter.1 hy).1, rise_filter h.rise _, fun nm => Nat.le_trans (of_len_del H _ _ nm) (h.few nm)⟩
theorem StB.put {S : List Ac} {H : List Hd} (h : StB S H) (n x : Int) (a : List UInt8) (hx : x ≤ 9223372036854775807) (ha : a.length ≤ 8) : StB (putSS S H n a x) (putHH S H n a x) := by
  by_cases h0 : putE S H n a x = 0
  · obtain ⟨h1, h2, h3, h4, h5, h6⟩ := put_zero h0
    unfold putSS putHH
    rw [if_pos h0, if_pos h0]
    refine ⟨h.kp.aside h6 (fun k => held_ins ⟨n, a, x⟩ H k) (fun y hy => ?_), fun y hy => ?_, rise_insH _ _ h.rise h4, fun nm => ?_⟩
    · rcases (mem_insH _ _ _).1 hy with rfl | hy
      · exact .inr rfl
      · exact .inl hy
    · rcases (mem_insH _ _ _).1 hy with rfl | hy
      · exact ⟨h1, h2, h3, hx, ha⟩
      · exact h.pos y hy
    · have := of_len_ins ⟨n, a, x⟩ H nm
      simp only at this
      by_cases e : nm = a
      · subst e
        rw [if_pos rfl] at this
        omega
      · rw [if_neg e] at this
        have := h.few nm
        omega
  · unfold putSS putHH
    rw [if_neg h0, if_neg h0]
    exact h
theorem StB.free {S : List Ac} {H : List Hd} (h : StB S H) (a : List UInt8) (n : Int) : StB (freeSS S H a n) (freeHH S H a n) ∧ (freeE S H a n ≠ 0 → freeSS S H a n = S) := by
  unfold freeHH freeSS freeE
  cases hg : getH H a n with
  | none => exact ⟨h, fun _ => rfl⟩
  | some y =>
    simp only
    by_cases h0 : asdE S a (-y.sum) = 0
    · rw [if_pos h0]
      exact ⟨h.del (h.kp.aside h0 (fun k => held_del h.rise hg k) (fun z hz => .inl (List.mem_filter.1 hz).1)), fun e => absurd h0 e⟩
    · rw [if_neg h0]
      have e : asdS S a (-y.sum) = S := act_err h0
      rw [e]
      exact ⟨h, fun _ => rfl⟩
theorem StB.take {S : List Ac} {H : List Hd} (h : StB S H) (a b : ByteArray) (n x : Int) : StB (takeSS S H a n b x) (takeHH S H a n b x) := by
  by_cases h0 : takeE S H a n b x = 0
  · unfold takeSS takeHH
    rw [if_pos h0, if_pos h0]
    unfold takeE at h0
    cases hg : getH H a.data.toList n with
    | none => rw [hg] at h0; cases h0
    | some y =>
      rw [hg] at h0
      simp only at h0
      split at h0
      · cases h0
      · split at h0
        · rename_i h1
          exact h.del ((h.kp.aside h1 (fun k => held_del h.rise hg k) (fun z hz => .inl (List.mem_filter.1 hz).1)).make _)
        · rename_i h1
          exact absurd h0 h1
  · unfold takeSS takeHH
    rw [if_neg h0, if_neg h0]
    exact h
theorem StB.post {S : List Ac} {H : List Hd} (h : StB S H) (L : List Lg) : StB (makeS S L) H := ⟨h.kp.make L, h.pos, h.rise, h.few⟩
theorem StB.open {S : List Ac} {H : List Hd} (h : StB S H) (nm : List UInt8) (lim : Int) (hl : In64 lim) : StB (openS S nm lim) H := ⟨h.kp.open nm lim hl, h.pos, h.rise, h.few⟩
end Go.Proofs.YtgklifbfbjdobaaGreat

namespace Go.Proofs.YtgklifbfbjdobaaGreat
open Go.RowKit Go.My Go.Maps
set_option linter.unusedSimpArgs false
set_option linter.unusedVariables false

/-- a book -/
structure Bk where
  S : List Ac
  H : List Hd
  cl : Int
def bk0 : Bk := ⟨[], [], 0⟩
def errR (e : Int) : Rp := ⟨e, 0, 0, 0⟩
/-- what is told of an account, where e was done -/
def aboutR (S : List Ac) (nm : List UInt8) (e : Int) : Rp := if e = 0 then ⟨(if (getA S nm).isSome then 0 else 6), (getV S nm).hv, (getV S nm).st, 0⟩ else errR e
def numO (o : Od) : Int := wrap64 (1000 * o.cl + o.sq)
def numR (r : Rp) (n : Int) : Rp := if r.err = 0 then { r with num := n } else r
/-- what an order that may be does -/
def effR (b : Bk) (o : Od) : Rp :=
  if o.kd = 1 then aboutR (openS b.S o.an o.sum) o.an (openE b.S o.an o.sum)
  else if o.kd = 2 then (if o.per ≤ b.cl then errR 10 else errR (checkE b.S o.legs))
  else if o.kd = 3 then numR (aboutR (putSS b.S b.H (numO o) o.an o.sum) o.an (putE b.S b.H (numO o) o.an o.sum)) (numO o)
  else if o.kd = 4 then (if o.per ≤ b.cl then errR 10 else aboutR (takeSS b.S b.H o.acct o.hold o.peer o.sum) o.an (takeE b.S b.H o.acct o.hold o.peer o.sum))
  else if o.kd = 5 then aboutR (freeSS b.S b.H o.an o.hold) o.an (freeE b.S b.H o.an o.hold)
  else if o.kd = 6 then (if o.per ≤ b.cl then errR 10 else ⟨0, 0, 0, o.per⟩)
  else aboutR b.S o.an 0
def effB (b : Bk) (o : Od) : Bk :=
  if o.kd = 1 then ⟨openS b.S o.an o.sum, b.H, b.cl⟩
  else if o.kd = 2 then (if o.per ≤ b.cl then b else ⟨makeS b.S o.legs, b.H, b.cl⟩)
  else if o.kd = 3 then ⟨putSS b.S b.H (numO o) o.an o.sum, putHH b.S b.H (numO o) o.an o.sum, b.cl⟩
  else if o.kd = 4 then (if o.per ≤ b.cl then b else ⟨takeSS b.S b.H o.acct o.hold o.peer o.sum, takeHH b.S b.H o.acct o.hold o.peer o.sum, b.cl⟩)
  else if o.kd = 5 then ⟨freeSS b.S b.H o.an o.hold, freeHH b.S b.H o.an o.hold, b.cl⟩
  else if o.kd = 6 then (if o.per ≤ b.cl then b else ⟨b.S, b.H, o.per⟩)
  else b
def doR (b : Bk) (o : Od) : Rp := if rightO o = true then effR b o else errR 1
def doB (b : Bk) (o : Od) : Bk := if rightO o = true then effB b o else b
/-- orders, one behind the other -/
def foldB : Bk → List Od → Bk
  | b, [] => b
  | b, o :: r => foldB (doB b o) r
def foldR : Bk → List Od → List Rp
  | _, [] => []
  | b, o :: r => doR b o :: foldR (doB b o) r
theorem foldB_append (b : Bk) (l m : List Od) : foldB b (l ++ m) = foldB (foldB b l) m := by
  induction l generalizing b with
  | nil => rfl
  | cons o r ih => exact ih _
theorem foldR_append (b : Bk) (l m : List Od) : foldR b (l ++ m) = foldR b l ++ foldR (foldB b l) m := by
  induction l generalizing b with
  | nil => rfl
  | cons o r ih =>
    show doR b o :: foldR (doB b o) (r ++ m) = _
    rw [ih]
    rfl
theorem foldR_length (b : Bk) (l : List Od) : (foldR b l).length = l.length := by
  induction l generalizing b with
  | nil => rfl
  | cons o r ih => show (foldR (doB b o) r).length + 1 = _; rw [ih]; rfl

/-- what holds of a book -/
structure BkI (b : Bk) : Prop where
  st : StB b.S b.H
  cl : 0 ≤ b.cl ∧ b.cl ≤ 1000
theorem bki0 : BkI bk0 := ⟨StB.none, by unfold bk0; exact ⟨Int.le_refl 0, by decide⟩⟩
theorem filter_or (p q : Hd → Bool) : ∀ l : List Hd, (l.filter fun x => p x || q x).length ≤ (l.filter p).length + (l.filter q).length
  | [] => by simp
  | x :: r => by
    have ih := filter_or p q r
    rw [List.filter_cons, List.filter_cons, List.filter_cons]
    cases p x <;> cases q x <;> simp <;> omega
theorem few_all {H : List Hd} (hf : ∀ nm, (ofH H nm).length ≤ 8) : ∀ S : List Ac, (H.filter fun x => S.any fun a => a.name == x.acct).length ≤ 8 * S.length
  | [] => by simp
  | a :: r => by
    have ih := few_all hf r
    have h1 := filter_or (fun x => a.name == x.acct) (fun x => r.any fun a => a.name == x.acct) H
    have h2 := hf a.name
    have h3 : (H.filter fun x => a.name == x.acct) = ofH H a.name := by
      unfold ofH
      apply List.filter_congr
      intro x _
      exact BEq.comm
    rw [h3] at h1
    have h4 : (H.filter fun x => (a :: r).any fun a => a.name == x.acct) = H.filter fun x => (a.name == x.acct) || (r.any fun a => a.name == x.acct) := by simp only [List.any_cons]
    rw [h4, List.length_cons]
    omega
/-- few holds -/
theorem StB.len {S : List Ac} {H : List Hd} (h : StB S H) : H.length ≤ 96 := by
  have h1 := few_all h.few S
  have h2 : (H.filter fun x => S.any fun a => a.name == x.acct) = H := by
    rw [List.filter_eq_self]
    intro x hx
    have h3 := h.kp.own x hx
    cases hg : getA S x.acct with
    | none => rw [hg] at h3; cases h3
    | some a =>
      rw [List.any_eq_true]
      exact ⟨a, (getA_some hg).1, by simpa using (getA_some hg).2⟩
  rw [h2] at h1
  have := h.kp.inv.len
  omega
/-- what an order that may be is like -/
theorem right_kd {o : Od} (h : rightO o = true) : (1 ≤ o.kd ∧ o.kd ≤ 7) ∧ (0 ≤ o.cl ∧ o.cl ≤ 9 ∧ 1 ≤ o.sq ∧ o.sq ≤ 999) ∧ (o.kd = 2 ∨ o.kd = 6 ∨ nameB o.an = true) ∧ (o.kd = 2 ∨ o.kd = 4 ∨ o.kd = 6 → 1 ≤ o.per ∧ o.per ≤ 1000) := by
  unfold rightO idB at h
  simp only [Bool.and_eq_true, decide_eq_true_eq] at h
  obtain ⟨h1, h2, ⟨h3, h4, h5, h6⟩, ha, hp, hs, hl, hper, hh, hn⟩ := h
  refine ⟨⟨h1, h2⟩, ⟨h3, h4, h5, h6⟩, ?_, fun hk => ?_⟩
  · unfold acctB at ha
    split at ha
    · rename_i h; rcases h with h | h
      · exact .inl h
      · exact .inr (.inl h)
    · exact .inr (.inr ha)
  · unfold perB at hper
    rw [if_pos hk] at hper
    simpa using hper
theorem name_len {l : List UInt8} (h : nameB l = true) : l.length ≤ 8 := by
  unfold nameB at h
  simp only [Bool.and_eq_true, decide_eq_true_eq] at h
  exact h.2.2
theorem numO_eq {o : Od} (h : 0 ≤ o.cl ∧ o.cl ≤ 9 ∧ 1 ≤ o.sq ∧ o.sq ≤ 999) : numO o = 1000 * o.cl + o.sq := by
  unfold numO
  rw [IntWalk.wrap64_in _ ⟨by omega, by omega⟩]
theorem do_inv {b : Bk} (h : BkI b) {o : Od} (ho : o.ok) : BkI (doB b o) := by
  unfold doB
  by_cases hr : rightO o = true
  · rw [if_pos hr]
    obtain ⟨hk, hid, hnm, hper⟩ := right_kd hr
    have hsum : In64 o.sum := ho.2.2.2.2.2.1
    unfold effB
    by_cases k1 : o.kd = 1
    · rw [if_pos k1]; exact ⟨h.st.open _ _ hsum, h.cl⟩
    rw [if_neg k1]
    by_cases k2 : o.kd = 2
    · rw [if_pos k2]; split
      · exact h
      · exact ⟨h.st.post _, h.cl⟩
    rw [if_neg k2]
    by_cases k3 : o.kd = 3
    · rw [if_pos k3]
      refine ⟨h.st.put _ _ _ hsum.2 ?_, h.cl⟩
      rcases hnm with h1 | h1 | h1
      · omega
      · omega
      · exact name_len h1
    rw [if_neg k3]
    by_cases k4 : o.kd = 4
    · rw [if_pos k4]; split
      · exact h
      · exact ⟨h.st.take _ _ _ _, h.cl⟩
    rw [if_neg k4]
    by_cases k5 : o.kd = 5
    · rw [if_pos k5]; exact ⟨(h.st.free _ _).1, h.cl⟩
    rw [if_neg k5]
    by_cases k6 : o.kd = 6
    · rw [if_pos k6]; split
      · exact h
      · have := hper (.inr (.inr k6))
        exact ⟨h.st, by simp only; omega⟩
    rw [if_neg k6]
    exact h
  · rw [if_neg hr]; exact h
theorem fold_inv {b : Bk} (h : BkI b) : ∀ l : List Od, (∀ o ∈ l, o.ok) → BkI (foldB b l)
  | [], _ => h
  | o :: r, hl => fold_inv (do_inv h (hl o List.mem_cons_self)) r fun x hx => hl x (List.mem_cons_of_mem _ hx)
end Go.Proofs.YtgklifbfbjdobaaGreat

namespace Go.Proofs.YtgklifbfbjdobaaGreat
open Go.RowKit Go.My Go.Maps
set_option linter.unusedSimpArgs false
set_option linter.unusedVariables false

def NmB (S : List Ac) : Prop := ∀ a ∈ S, nameB a.name = true
theorem NmB.put {S : List Ac} (h : NmB S) {a : Ac} (ha : nameB a.name = true) : NmB (putA a S) := fun b hb => by
  rcases mem_putA hb with rfl | hb
  · exact ha
  · exact h b hb
theorem NmB.act {S : List Ac} (h : NmB S) {f : Ac → Int} {g : Ac → Ac} (hg : ∀ a, (g a).name = a.name) (nm : List UInt8) : NmB (actS f g S nm) := by
  unfold actS
  cases hq : getA S nm with
  | none => exact h
  | some a =>
    simp only
    split
    · exact h.put (by rw [hg]; exact h a (getA_some hq).1)
    · exact h
theorem NmB.asd {S : List Ac} (h : NmB S) (nm : List UInt8) (x : Int) : NmB (asdS S nm x) := h.act (fun a => asideA_name a x) nm
theorem NmB.leg {S : List Ac} (h : NmB S) (g : Lg) : NmB (legS S g) := by
  unfold legS
  split
  · exact h.act (fun a => giveA_name a _) _
  · exact h
theorem NmB.legs {S : List Ac} (h : NmB S) (L : List Lg) : NmB (legsS S L) := by
  induction L generalizing S with
  | nil => exact h
  | cons g r ih =>
    unfold legsS
    split
    · exact ih (h.leg g)
    · exact h
theorem NmB.make {S : List Ac} (h : NmB S) (L : List Lg) : NmB (makeS S L) := by
  unfold makeS
  split
  · exact h.legs L
  · exact h
theorem NmB.doB {b : Bk} (h : NmB b.S) (o : Od) : NmB (doB b o).S := by
  unfold Go.Proofs.YtgklifbfbjdobaaGreat.doB
  split
  · unfold effB
    split
    · simp only
      unfold openS
      split
      · rename_i h0
        refine h.put ?_
        unfold openE at h0
        split at h0
        · cases h0
        · rename_i h1
          simp only [not_or, Bool.not_eq_false] at h1
          exact h1.1
      · exact h
    split
    · split
      · exact h
      · exact h.make _
    split
    · simp only
      unfold putSS
      split
      · exact h.asd _ _
      · exact h
    split
    · split
      · exact h
      · simp only
        unfold takeSS
        split
        · exact (h.asd _ _).make _
        · exact h
    split
    · simp only
      unfold freeSS
      split
      · exact h
      · exact h.asd _ _
    split
    · split
      · exact h
      · exact h
    exact h
  · exact h
theorem NmB.fold {b : Bk} (h : NmB b.S) (l : List Od) : NmB (foldB b l).S := by
  induction l generalizing b with
  | nil => exact h
  | cons o r ih => exact ih (h.doB o)
theorem nmB0 : NmB bk0.S := fun a h => by cases h

/-- an order of a client's -/
def askOd (seq kd : Int) (acct : ByteArray) (sum : Int) : Od := ⟨0, seq, kd, acct, ⟨#[]⟩, sum, [], 0, 0, ⟨#[]⟩⟩
theorem ask_right {s : Int} (hs : 1 ≤ s ∧ s ≤ 999) (a : ByteArray) : rightO (askOd s 7 a 0) = nameB a.data.toList := by
  unfold rightO idB acctB peerB sumB legsB perB holdB noteB askOd Od.an Od.pn
  simp [hs.1, hs.2]
theorem ask_do {b : Bk} {s : Int} (hs : 1 ≤ s ∧ s ≤ 999) (a : ByteArray) : doR b (askOd s 7 a 0) = (if nameB a.data.toList = true then aboutR b.S a.data.toList 0 else errR 1) ∧ doB b (askOd s 7 a 0) = b := by
  unfold doR doB
  rw [ask_right hs]
  refine ⟨rfl, ?_⟩
  split <;> rfl
/-- what is told: of an account, or that there is none -/
theorem ask_case {b : Bk} (hn : NmB b.S) (hr : Rise b.S) (a : ByteArray) : ∃ R : Rp, (∀ s, 1 ≤ s ∧ s ≤ 999 → doR b (askOd s 7 a 0) = R) ∧ ((∃ c, c ∈ b.S ∧ c.name = a.data.toList ∧ R = ⟨0, c.hv, c.st, 0⟩ ∧ ∀ d ∈ b.S, d.name = a.data.toList → d = c) ∨ ((∀ c ∈ b.S, c.name ≠ a.data.toList) ∧ (R = ⟨6, 0, 0, 0⟩ ∨ R = ⟨1, 0, 0, 0⟩))) := by
  refine ⟨_, fun s hs => (ask_do hs a).1, ?_⟩
  cases hg : getA b.S a.data.toList with
  | none =>
    refine .inr ⟨getA_none hg, ?_⟩
    split
    · left
      unfold aboutR getV
      rw [if_pos rfl, hg]
      rfl
    · right; rfl
  | some c =>
    obtain ⟨hc, hcn⟩ := getA_some hg
    have h1 : nameB a.data.toList = true := by rw [← hcn]; exact hn c hc
    refine .inl ⟨c, hc, hcn, ?_, fun d hd hdn => ?_⟩
    · rw [if_pos h1]
      unfold aboutR getV
      rw [if_pos rfl, hg]
      rfl
    · have h2 := getA_mem hr hd
      rw [hdn, hg] at h2
      injection h2 with h2
      exact h2.symm
end Go.Proofs.YtgklifbfbjdobaaGreat
