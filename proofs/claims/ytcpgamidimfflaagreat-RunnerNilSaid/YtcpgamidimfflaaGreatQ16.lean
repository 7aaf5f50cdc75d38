/- What holds and accounts keep between them: in lists. The laws on holds begin: accounts a, b, c. The steps of a script on holds: in lists, and done. A book's accounts and holds, as lists: what is set aside of an account is what its holds have together, whatever names there are. Replies, as they are in lists. What a book tells of an order, and what it has behind it: in lists. Of no walk. Texts in order, each once: of no program. slices.DeleteFunc, Sort and Compact of strings, of rows of the call's own. append(nil, make(..)...): of no program. order.Touches: the accounts that an order names. -/
import Derived.Test.YtcpgamidimfflaaGreatQ15
import Derived.Test.YtcpgamidimfflaaGreatQ02
import Derived.Test.YtcpgamidimfflaaGreatQ12
import Derived.Sort.EncStr
import Derived.Sort.Grow
import Derived.Lib.SlicesCompact
import Derived.Lib.RowBridge
import Derived.Test.YtcpgamidimfflaaGreatStrF
namespace Go.Proofs.YtcpgamidimfflaaGreat
open Go.RowKit Go.My Go.Maps
set_option linter.unusedSimpArgs false
set_option linter.unusedVariables false
def heldOf (H : List Hd) (nm : List UInt8) : Int := total ((ofH H nm).map Hd.sum)
theorem heldOf_cons (x : Hd) (H : List Hd) (nm : List UInt8) : heldOf (x :: H) nm = (if x.acct = nm then x.sum else 0) + heldOf H nm := by
  unfold heldOf ofH
  rw [List.filter_cons]
  by_cases e : x.acct = nm
  · rw [if_pos (by simpa using e), if_pos e, List.map_cons, total_cons]
  · rw [if_neg (by simpa using e), if_neg e]
    omega
theorem perm_insH (x : Hd) : ∀ H : List Hd, (insH x H).Perm (x :: H)
  | [] => List.Perm.refl _
  | b :: r => by
    unfold insH
    split
    · exact List.Perm.refl _
    · exact (List.Perm.cons b (perm_insH x r)).trans (List.Perm.swap x b r)
theorem heldOf_perm {G H : List Hd} (h : G.Perm H) (nm : List UInt8) : heldOf G nm = heldOf H nm := by
  induction h with
  | nil => rfl
  | cons x _ ih => rw [heldOf_cons, heldOf_cons, ih]
  | swap x y l => rw [heldOf_cons, heldOf_cons, heldOf_cons, heldOf_cons]; omega
  | trans _ _ ih1 ih2 => exact ih1.trans ih2
theorem perm_delH {a : List UInt8} {n : Int} {h : Hd} : ∀ H : List Hd, RiseH H → getH H a n = some h → H.Perm (h :: delH H a n)
  | [], _, e => by cases e
  | b :: r, hr, e => by
    obtain ⟨h1, h2⟩ := List.pairwise_cons.1 hr
    unfold getH at e
    rw [List.find?_cons] at e
    unfold delH
    rw [List.filter_cons]
    by_cases hb : b.at a n = true
    · rw [hb] at e ⊢
      simp only [Option.some.injEq] at e
      subst e
      have : r.filter (fun h => !h.at a n) = r := by
        rw [List.filter_eq_self]
        intro y hy
        cases hq : y.at a n with
        | false => rfl
        | true =>
          obtain ⟨e1, e2⟩ := Hd.at_iff.1 hb
          obtain ⟨e3, e4⟩ := Hd.at_iff.1 hq
          have := h1 y hy
          rw [hB_irrefl (e1.trans e3.symm) (e2.trans e4.symm)] at this
          cases this
      rw [this]
      simp
    · have hb' : b.at a n = false := by simpa using hb
      rw [hb'] at e ⊢
      simp only [Bool.not_false, if_true]
      exact (List.Perm.cons b (perm_delH r h2 e)).trans (List.Perm.swap h b _)
theorem held_ins (x : Hd) (H : List Hd) (nm : List UInt8) : heldOf (insH x H) nm = heldOf H nm + if nm = x.acct then x.sum else 0 := by
  rw [heldOf_perm (perm_insH x H), heldOf_cons]
  by_cases e : x.acct = nm
  · rw [if_pos e, if_pos e.symm]; omega
  · rw [if_neg e, if_neg (fun e2 => e e2.symm)]; omega
theorem held_del {H : List Hd} (hr : RiseH H) {a : List UInt8} {n : Int} {h : Hd} (e : getH H a n = some h) (nm : List UInt8) : heldOf (delH H a n) nm = heldOf H nm + if nm = a then -h.sum else 0 := by
  have h1 := heldOf_perm (perm_delH H hr e) nm
  rw [heldOf_cons, (getH_some e).2.1] at h1
  by_cases e : a = nm
  · rw [if_pos e] at h1; rw [if_pos e.symm]; omega
  · rw [if_neg e] at h1; rw [if_neg (fun e2 => e e2.symm)]; omega
theorem of_len_ins (x : Hd) (H : List Hd) (nm : List UInt8) : (ofH (insH x H) nm).length ≤ (ofH H nm).length + if nm = x.acct then 1 else 0 := by
  have : (ofH (insH x H) nm).Perm (ofH (x :: H) nm) := List.Perm.filter _ (perm_insH x H)
  rw [this.length_eq]
  unfold ofH
  rw [List.filter_cons]
  by_cases e : nm = x.acct
  · rw [if_pos e, if_pos (by simpa using e.symm)]; simp
  · rw [if_neg e, if_neg (by simpa using fun e2 => e e2.symm)]; simp
theorem of_len_del (H : List Hd) (a : List UInt8) (n : Int) (nm : List UInt8) : (ofH (delH H a n) nm).length ≤ (ofH H nm).length := by
  unfold ofH delH
  rw [List.filter_filter]
  induction H with
  | nil => simp
  | cons b r ih =>
    rw [List.filter_cons, List.filter_cons]
    split
    · rename_i h
      rw [if_pos (by simp only [Bool.and_eq_true] at h; exact h.1)]
      simpa using ih
    · split
      · simp only [List.length_cons]; omega
      · exact ih
def abc : List (List UInt8) := [[97], [98], [99]]
structure Kp (S : List Ac) (H : List Hd) : Prop where
  inv : Inv S
  acc : ∀ nm, (getA S nm).isSome = true ↔ nm ∈ abc
  snd : ∀ nm a, getA S nm = some a → -a.lim ≤ a.hv - a.st
  set : ∀ nm a, getA S nm = some a → heldOf H nm = a.st
theorem Kp.good {S : List Ac} {H : List Hd} (h : Kp S H) : Snd S := fun a ha => h.snd a.name a (getA_mem h.inv.rise ha)
theorem getA_upd {S : List Ac} {k : List UInt8} {c c' : Ac} (hg : getA S k = some c) (hn : c'.name = c.name) (nm : List UInt8) : getA (putA c' S) nm = if nm = k then some c' else getA S nm := by
  have hk : c'.name = k := hn.trans (getA_some hg).2
  by_cases e : nm = k
  · rw [if_pos e, e, ← hk]
    exact getA_put_same S c'
  · rw [if_neg e]
    exact getA_put_other S c' nm (fun e2 => e (e2.trans hk))
theorem Kp.upd {S : List Ac} {H H' : List Hd} (h : Kp S H) {k : List UInt8} {c c' : Ac} (hg : getA S k = some c) (hn : c'.name = c.name) (hI : Inv (putA c' S)) (hs : -c'.lim ≤ c'.hv - c'.st) (hH : ∀ nm, heldOf H' nm = heldOf H nm + if nm = k then c'.st - c.st else 0) : Kp (putA c' S) H' where
  inv := hI
  acc nm := by
    rw [getA_upd hg hn]
    by_cases e : nm = k
    · rw [if_pos e, ← h.acc nm, e, hg]; simp
    · rw [if_neg e]; exact h.acc nm
  snd nm a ha := by
    rw [getA_upd hg hn] at ha
    by_cases e : nm = k
    · rw [if_pos e] at ha
      injection ha with ha
      subst ha
      exact hs
    · rw [if_neg e] at ha
      exact h.snd nm a ha
  set nm a ha := by
    rw [getA_upd hg hn] at ha
    rw [hH]
    by_cases e : nm = k
    · rw [if_pos e] at ha ⊢
      injection ha with ha
      subst ha
      have := h.set k c hg
      rw [e]
      omega
    · rw [if_neg e] at ha ⊢
      have := h.set nm a ha
      omega
theorem Kp.give {S : List Ac} {H : List Hd} (h : Kp S H) (nm : List UInt8) (x : Int) : Kp (actS (fun a => giveE a x) (fun a => giveA a x) S nm) H := by
  have hI := inv_give h.inv nm x
  unfold actS at hI ⊢
  cases hg : getA S nm with
  | none => exact h
  | some a =>
    rw [hg] at hI
    simp only at hI ⊢
    by_cases h0 : giveE a x = 0
    · rw [if_pos h0] at hI ⊢
      have e : giveA a x = { a with hv := a.hv - x } := by unfold giveA; rw [if_pos h0]
      rw [e] at hI ⊢
      refine h.upd hg rfl hI ?_ (fun k => by simp)
      have h1 := h.snd nm a hg
      unfold giveE at h0
      split at h0
      · split at h0
        · cases h0
        · rename_i h2
          unfold freeB at h2
          simp only [decide_eq_false_iff_not, not_and, Classical.not_not] at h2
          simp only
          by_cases hx : 0 < x
          · have := h2 hx; omega
          · omega
      · cases h0
    · rw [if_neg h0]
      exact h
theorem Kp.leg {S : List Ac} {H : List Hd} (h : Kp S H) (g : Lg) : Kp (legS S g) H := by
  unfold legS
  split
  · exact h.give _ _
  · exact h
theorem Kp.legs {S : List Ac} {H : List Hd} (h : Kp S H) (L : List Lg) : Kp (legsS S L) H := by
  induction L generalizing S with
  | nil => exact h
  | cons g r ih =>
    unfold legsS
    split
    · exact ih (h.leg g)
    · exact h
theorem Kp.make {S : List Ac} {H : List Hd} (h : Kp S H) (L : List Lg) : Kp (makeS S L) H := by
  unfold makeS
  split
  · exact h.legs L
  · exact h
theorem Kp.aside {S : List Ac} {H H' : List Hd} (h : Kp S H) {nm : List UInt8} {x : Int} (h0 : asdE S nm x = 0) (hH : ∀ k, heldOf H' k = heldOf H k + if k = nm then x else 0) : Kp (asdS S nm x) H' := by
  have hI := inv_aside h.inv nm x
  unfold asdE actE at h0
  unfold asdS actS at hI ⊢
  cases hg : getA S nm with
  | none => rw [hg] at h0; cases h0
  | some a =>
    rw [hg] at hI h0
    simp only at hI h0 ⊢
    rw [if_pos h0] at hI ⊢
    have e : asideA a x = { a with st := a.st + x } := by unfold asideA; rw [if_pos h0]
    rw [e] at hI ⊢
    refine h.upd hg rfl hI ?_ (fun k => by rw [hH k]; simp only; split <;> omega)
    have h1 := h.snd nm a hg
    unfold asideE at h0
    split at h0
    · split at h0
      · cases h0
      · rename_i h2
        unfold freeB at h2
        simp only [decide_eq_false_iff_not, not_and, Classical.not_not] at h2
        simp only
        by_cases hx : 0 < x
        · have := h2 hx; omega
        · omega
    · cases h0
end Go.Proofs.YtcpgamidimfflaaGreat
namespace Go.Proofs.YtcpgamidimfflaaGreat
open Go.RowKit Go.My Go.Maps
set_option linter.unusedSimpArgs false
set_option linter.unusedVariables false
attribute [local go_sem ↓] Go.wp_at_zero Go.wp_at_succ
def aA (x : Int) : Ac := ⟨[97], x, 0, 0⟩
def aB (x : Int) : Ac := ⟨[98], x, 0, 5⟩
def aC : Ac := ⟨[99], 0, 0, 10⟩
def abcS : List Ac := [aA 30, aB 10, aC]
theorem inv0 : Inv [] where
  ok a h := by cases h
  nm a h := by cases h
  len := by simp
  rise := List.Pairwise.nil
end Go.Proofs.YtcpgamidimfflaaGreat
namespace Go.Proofs.YtcpgamidimfflaaGreat
open Go.RowKit Go.My Go.Maps
set_option linter.unusedSimpArgs false
set_option linter.unusedVariables false
structure OpH where
  kind : Int
  num : Int
  acct : ByteArray
  peer : ByteArray
  sum : Int
def OpH.ok (o : OpH) : Prop := In64 o.kind ∧ In64 o.num ∧ o.acct.size ≤ maxLen ∧ o.peer.size ≤ maxLen ∧ In64 o.sum
def OpH.nm (o : OpH) : List UInt8 := o.acct.data.toList
def OpH.val (o : OpH) : Value := .agg #[.int .i64 o.kind, .int .i64 o.num, .string o.acct, .string o.peer, .int .i64 o.sum]
def kindH (k : Int) : Int := (k % 18446744073709551616) % 4
theorem kindH_bd (k : Int) : kindH k = 0 ∨ kindH k = 1 ∨ kindH k = 2 ∨ kindH k = 3 := by unfold kindH; omega
def doesHE (S : List Ac) (H : List Hd) (o : OpH) : Int :=
  if kindH o.kind = 0 then putE S H o.num o.nm o.sum else if kindH o.kind = 1 then takeE S H o.acct o.num o.peer o.sum else if kindH o.kind = 2 then freeE S H o.nm o.num else actE (fun a => giveE a o.sum) S o.nm
def doesHS (S : List Ac) (H : List Hd) (o : OpH) : List Ac :=
  if kindH o.kind = 0 then putSS S H o.num o.nm o.sum else if kindH o.kind = 1 then takeSS S H o.acct o.num o.peer o.sum else if kindH o.kind = 2 then freeSS S H o.nm o.num else actS (fun a => giveE a o.sum) (fun a => giveA a o.sum) S o.nm
def doesHH (S : List Ac) (H : List Hd) (o : OpH) : List Hd :=
  if kindH o.kind = 0 then putHH S H o.num o.nm o.sum else if kindH o.kind = 1 then takeHH S H o.acct o.num o.peer o.sum else if kindH o.kind = 2 then freeHH S H o.nm o.num else H
structure St (S : List Ac) (H : List Hd) : Prop where
  kp : Kp S H
  pos : PosH H
  rise : RiseH H
  few : ∀ nm, (ofH H nm).length ≤ 8
theorem asd_some {S : List Ac} {nm : List UInt8} {x : Int} (h : asdE S nm x = 0) : (getA S nm).isSome = true := by
  unfold asdE actE at h
  cases hg : getA S nm with
  | none => rw [hg] at h; cases h
  | some a => rfl
theorem abc_len {nm : List UInt8} (h : nm ∈ abc) : nm.length ≤ 8 := by
  simp only [abc, List.mem_cons, List.not_mem_nil, or_false] at h
  rcases h with rfl | rfl | rfl <;> simp
theorem put_zero {S : List Ac} {H : List Hd} {n x : Int} {a : List UInt8} (h : putE S H n a x = 0) : 1 ≤ n ∧ n ≤ 9999 ∧ 0 < x ∧ getH H a n = none ∧ (ofH H a).length < 8 ∧ asdE S a x = 0 := by
  unfold putE at h
  split at h
  · cases h
  · rename_i h1
    split at h
    · cases h
    · rename_i h2
      split at h
      · cases h
      · exact ⟨by omega, by omega, by omega, by simpa using h2, by omega, h⟩
theorem St.del {S S' : List Ac} {H : List Hd} {a : List UInt8} {n : Int} (h : St S H) (hk : Kp S' (delH H a n)) : St S' (delH H a n) :=
  ⟨hk, fun y hy => h.pos y (List.mem_filter.1 hy).1, rise_filter h.rise _, fun nm => Nat.le_trans (of_len_del H _ _ nm) (h.few nm)⟩
theorem St.put {S : List Ac} {H : List Hd} (h : St S H) (n x : Int) (a : List UInt8) (hx : x ≤ 9223372036854775807) : St (putSS S H n a x) (putHH S H n a x) := by
  by_cases h0 : putE S H n a x = 0
  · obtain ⟨h1, h2, h3, h4, h5, h6⟩ := put_zero h0
    unfold putSS putHH
    rw [if_pos h0, if_pos h0]
    refine ⟨h.kp.aside h6 (fun k => held_ins ⟨n, a, x⟩ H k), fun y hy => ?_, rise_insH _ _ h.rise h4, fun nm => ?_⟩
    · rcases (mem_insH _ _ _).1 hy with rfl | hy
      · exact ⟨h1, h2, h3, hx, abc_len ((h.kp.acc a).1 (asd_some h6))⟩
      · exact h.pos y hy
    · have := of_len_ins ⟨n, a, x⟩ H nm
      simp only at this
      by_cases e : nm = a
      · subst e
        rw [if_pos rfl] at this
        omega
      · rw [if_neg e] at this
        have := h.few nm
        omega
  · unfold putSS putHH
    rw [if_neg h0, if_neg h0]
    exact h
theorem St.free {S : List Ac} {H : List Hd} (h : St S H) (a : List UInt8) (n : Int) : St (freeSS S H a n) (freeHH S H a n) ∧ (freeE S H a n ≠ 0 → freeSS S H a n = S) := by
  unfold freeHH freeSS freeE
  cases hg : getH H a n with
  | none => exact ⟨h, fun _ => rfl⟩
  | some y =>
    simp only
    by_cases h0 : asdE S a (-y.sum) = 0
    · rw [if_pos h0]
      exact ⟨h.del (h.kp.aside h0 (fun k => held_del h.rise hg k)), fun e => absurd h0 e⟩
    · rw [if_neg h0]
      have e : asdS S a (-y.sum) = S := act_err h0
      rw [e]
      exact ⟨h, fun _ => rfl⟩
theorem St.take {S : List Ac} {H : List Hd} (h : St S H) (a b : ByteArray) (n x : Int) : St (takeSS S H a n b x) (takeHH S H a n b x) := by
  by_cases h0 : takeE S H a n b x = 0
  · unfold takeSS takeHH
    rw [if_pos h0, if_pos h0]
    unfold takeE at h0
    cases hg : getH H a.data.toList n with
    | none => rw [hg] at h0; cases h0
    | some y =>
      rw [hg] at h0
      simp only at h0
      split at h0
      · cases h0
      · split at h0
        · rename_i h1
          exact h.del ((h.kp.aside h1 (fun k => held_del h.rise hg k)).make _)
        · rename_i h1
          exact absurd h0 h1
  · unfold takeSS takeHH
    rw [if_neg h0, if_neg h0]
    exact h
theorem len_del_le (H : List Hd) (a : List UInt8) (n : Int) : (delH H a n).length ≤ H.length := List.length_filter_le _ _
theorem St.does {S : List Ac} {H : List Hd} (h : St S H) (o : OpH) (ho : o.ok) : St (doesHS S H o) (doesHH S H o) ∧ (doesHE S H o ≠ 0 → doesHS S H o = S ∧ doesHH S H o = H) ∧ (doesHH S H o).length ≤ H.length + 1 := by
  unfold doesHS doesHH doesHE
  rcases kindH_bd o.kind with hk | hk | hk | hk <;> rw [hk]
  · simp only [if_true]
    refine ⟨h.put _ _ _ (by have := ho.2.2.2.2; unfold In64 at this; omega), fun hne => ?_, ?_⟩
    · unfold putSS putHH
      rw [if_neg hne, if_neg hne]
      exact ⟨rfl, rfl⟩
    · unfold putHH
      split
      · rw [len_insH]; omega
      · omega
  · simp only [show ¬ ((1 : Int) = 0) by decide, if_false, if_true]
    refine ⟨h.take _ _ _ _, fun hne => ?_, ?_⟩
    · unfold takeSS takeHH
      rw [if_neg hne, if_neg hne]
      exact ⟨rfl, rfl⟩
    · unfold takeHH
      split
      · have := len_del_le H o.acct.data.toList o.num; omega
      · omega
  · simp only [show ¬ ((2 : Int) = 0) by decide, show ¬ ((2 : Int) = 1) by decide, if_false, if_true]
    refine ⟨(h.free _ _).1, fun hne => ⟨(h.free _ _).2 hne, ?_⟩, ?_⟩
    · unfold freeHH
      rw [if_neg hne]
    · unfold freeHH
      split
      · have := len_del_le H o.nm o.num; omega
      · omega
  · simp only [show ¬ ((3 : Int) = 0) by decide, show ¬ ((3 : Int) = 1) by decide, show ¬ ((3 : Int) = 2) by decide, if_false]
    exact ⟨⟨h.kp.give _ _, h.pos, h.rise, h.few⟩, fun hne => ⟨act_err hne, trivial⟩, by omega⟩
end Go.Proofs.YtcpgamidimfflaaGreat
namespace Go.Proofs.YtcpgamidimfflaaGreat
open Go.RowKit Go.My Go.Maps
set_option linter.unusedSimpArgs false
set_option linter.unusedVariables false
structure KpB (S : List Ac) (H : List Hd) : Prop where
  inv : Inv S
  snd : ∀ nm a, getA S nm = some a → -a.lim ≤ a.hv - a.st
  set : ∀ nm a, getA S nm = some a → heldOf H nm = a.st
  own : ∀ h ∈ H, (getA S h.acct).isSome = true
theorem KpB.good {S : List Ac} {H : List Hd} (h : KpB S H) : Snd S := fun a ha => h.snd a.name a (getA_mem h.inv.rise ha)
theorem KpB.upd {S : List Ac} {H H' : List Hd} (h : KpB S H) {k : List UInt8} {c c' : Ac} (hg : getA S k = some c) (hn : c'.name = c.name) (hI : Inv (putA c' S)) (hs : -c'.lim ≤ c'.hv - c'.st) (hH : ∀ nm, heldOf H' nm = heldOf H nm + if nm = k then c'.st - c.st else 0) (hO : ∀ x ∈ H', x ∈ H ∨ x.acct = k) : KpB (putA c' S) H' where
  inv := hI
  snd nm a ha := by
    rw [getA_upd hg hn] at ha
    by_cases e : nm = k
    · rw [if_pos e] at ha
      injection ha with ha
      subst ha
      exact hs
    · rw [if_neg e] at ha
      exact h.snd nm a ha
  set nm a ha := by
    rw [getA_upd hg hn] at ha
    rw [hH]
    by_cases e : nm = k
    · rw [if_pos e] at ha ⊢
      injection ha with ha
      subst ha
      have := h.set k c hg
      rw [e]
      omega
    · rw [if_neg e] at ha ⊢
      have := h.set nm a ha
      omega
  own x hx := by
    rw [getA_upd hg hn]
    by_cases e : x.acct = k
    · rw [if_pos e]; rfl
    · rw [if_neg e]
      rcases hO x hx with h1 | h1
      · exact h.own x h1
      · exact absurd h1 e
theorem KpB.give {S : List Ac} {H : List Hd} (h : KpB S H) (nm : List UInt8) (x : Int) : KpB (actS (fun a => giveE a x) (fun a => giveA a x) S nm) H := by
  have hI := inv_give h.inv nm x
  unfold actS at hI ⊢
  cases hg : getA S nm with
  | none => exact h
  | some a =>
    rw [hg] at hI
    simp only at hI ⊢
    by_cases h0 : giveE a x = 0
    · rw [if_pos h0] at hI ⊢
      have e : giveA a x = { a with hv := a.hv - x } := by unfold giveA; rw [if_pos h0]
      rw [e] at hI ⊢
      refine h.upd hg rfl hI ?_ (fun k => by simp) (fun y hy => .inl hy)
      have h1 := h.snd nm a hg
      unfold giveE at h0
      split at h0
      · split at h0
        · cases h0
        · rename_i h2
          unfold freeB at h2
          simp only [decide_eq_false_iff_not, not_and, Classical.not_not] at h2
          simp only
          by_cases hx : 0 < x
          · have := h2 hx; omega
          · omega
      · cases h0
    · rw [if_neg h0]
      exact h
theorem KpB.leg {S : List Ac} {H : List Hd} (h : KpB S H) (g : Lg) : KpB (legS S g) H := by
  unfold legS
  split
  · exact h.give _ _
  · exact h
theorem KpB.legs {S : List Ac} {H : List Hd} (h : KpB S H) (L : List Lg) : KpB (legsS S L) H := by
  induction L generalizing S with
  | nil => exact h
  | cons g r ih =>
    unfold legsS
    split
    · exact ih (h.leg g)
    · exact h
theorem KpB.make {S : List Ac} {H : List Hd} (h : KpB S H) (L : List Lg) : KpB (makeS S L) H := by
  unfold makeS
  split
  · exact h.legs L
  · exact h
theorem KpB.aside {S : List Ac} {H H' : List Hd} (h : KpB S H) {nm : List UInt8} {x : Int} (h0 : asdE S nm x = 0) (hH : ∀ k, heldOf H' k = heldOf H k + if k = nm then x else 0) (hO : ∀ y ∈ H', y ∈ H ∨ y.acct = nm) : KpB (asdS S nm x) H' := by
  have hI := inv_aside h.inv nm x
  unfold asdE actE at h0
  unfold asdS actS at hI ⊢
  cases hg : getA S nm with
  | none => rw [hg] at h0; cases h0
  | some a =>
    rw [hg] at hI h0
    simp only at hI h0 ⊢
    rw [if_pos h0] at hI ⊢
    have e : asideA a x = { a with st := a.st + x } := by unfold asideA; rw [if_pos h0]
    rw [e] at hI ⊢
    refine h.upd hg rfl hI ?_ (fun k => by rw [hH k]; simp only; split <;> omega) hO
    have h1 := h.snd nm a hg
    unfold asideE at h0
    split at h0
    · split at h0
      · cases h0
      · rename_i h2
        unfold freeB at h2
        simp only [decide_eq_false_iff_not, not_and, Classical.not_not] at h2
        simp only
        by_cases hx : 0 < x
        · have := h2 hx; omega
        · omega
    · cases h0
theorem heldOf_none {S : List Ac} {H : List Hd} (h : KpB S H) {nm : List UInt8} (hg : getA S nm = none) : heldOf H nm = 0 := by
  have : ofH H nm = [] := by
    unfold ofH
    rw [List.filter_eq_nil_iff]
    intro x hx he
    have h1 := h.own x hx
    have h2 : x.acct = nm := by simpa using he
    rw [h2, hg] at h1
    cases h1
  unfold heldOf
  rw [this]
  rfl
theorem KpB.open {S : List Ac} {H : List Hd} (h : KpB S H) (nm : List UInt8) (lim : Int) (hl : In64 lim) : KpB (openS S nm lim) H := by
  have hI := inv_open h.inv nm lim hl
  unfold openS at hI ⊢
  by_cases h0 : openE S nm lim = 0
  · rw [if_pos h0] at hI ⊢
    have h1 : getA S nm = none ∧ 0 ≤ lim := by
      unfold openE at h0
      split at h0
      · cases h0
      · rename_i h1
        split at h0
        · cases h0
        · rename_i h2
          exact ⟨by simpa using h2, by omega⟩
    have hget : ∀ k, getA (putA ⟨nm, 0, 0, lim⟩ S) k = if k = nm then some ⟨nm, 0, 0, lim⟩ else getA S k := fun k => by
      by_cases e : k = nm
      · rw [if_pos e, e]
        exact getA_put_same S ⟨nm, 0, 0, lim⟩
      · rw [if_neg e]
        exact getA_put_other S ⟨nm, 0, 0, lim⟩ k (fun e2 => e e2)
    refine ⟨hI, fun k a ha => ?_, fun k a ha => ?_, fun x hx => ?_⟩
    · rw [hget] at ha
      by_cases e : k = nm
      · rw [if_pos e] at ha
        injection ha with ha
        subst ha
        simp only
        omega
      · rw [if_neg e] at ha
        exact h.snd k a ha
    · rw [hget] at ha
      by_cases e : k = nm
      · rw [if_pos e] at ha
        injection ha with ha
        subst ha
        rw [e]
        exact heldOf_none h h1.1
      · rw [if_neg e] at ha
        exact h.set k a ha
    · rw [hget]
      by_cases e : x.acct = nm
      · rw [if_pos e]; rfl
      · rw [if_neg e]; exact h.own x hx
  · rw [if_neg h0]
    exact h
structure StB (S : List Ac) (H : List Hd) : Prop where
  kp : KpB S H
  pos : PosH H
  rise : RiseH H
  few : ∀ nm, (ofH H nm).length ≤ 8
theorem StB.none : StB [] [] :=
  { kp := { inv := inv0, snd := (fun nm a h => by cases h), set := (fun nm a h => by cases h), own := (fun h hh => by cases hh) }
    pos := (fun h hh => by cases hh)
    rise := List.Pairwise.nil
    few := (fun nm => by simp [ofH]) }
theorem StB.del {S S' : List Ac} {H : List Hd} {a : List UInt8} {n : Int} (h : StB S H) (hk : KpB S' (delH H a n)) : StB S' (delH H a n) :=
  ⟨hk, fun y hy => h.pos y (List.mem_filter.1 hy).1, rise_filter h.rise _, fun nm => Nat.le_trans (of_len_del H _ _ nm) (h.few nm)⟩
theorem StB.put {S : List Ac} {H : List Hd} (h : StB S H) (n x : Int) (a : List UInt8) (hx : x ≤ 9223372036854775807) (ha : a.length ≤ 8) : StB (putSS S H n a x) (putHH S H n a x) := by
  by_cases h0 : putE S H n a x = 0
  · obtain ⟨h1, h2, h3, h4, h5, h6⟩ := put_zero h0
    unfold putSS putHH
    rw [if_pos h0, if_pos h0]
    refine ⟨h.kp.aside h6 (fun k => held_ins ⟨n, a, x⟩ H k) (fun y hy => ?_), fun y hy => ?_, rise_insH _ _ h.rise h4, fun nm => ?_⟩
    · rcases (mem_insH _ _ _).1 hy with rfl | hy
      · exact .inr rfl
      · exact .inl hy
    · rcases (mem_insH _ _ _).1 hy with rfl | hy
      · exact ⟨h1, h2, h3, hx, ha⟩
      · exact h.pos y hy
    · have := of_len_ins ⟨n, a, x⟩ H nm
      simp only at this
      by_cases e : nm = a
      · subst e
        rw [if_pos rfl] at this
        omega
      · rw [if_neg e] at this
        have := h.few nm
        omega
  · unfold putSS putHH
    rw [if_neg h0, if_neg h0]
    exact h
theorem StB.free {S : List Ac} {H : List Hd} (h : StB S H) (a : List UInt8) (n : Int) : StB (freeSS S H a n) (freeHH S H a n) ∧ (freeE S H a n ≠ 0 → freeSS S H a n = S) := by
  unfold freeHH freeSS freeE
  cases hg : getH H a n with
  | none => exact ⟨h, fun _ => rfl⟩
  | some y =>
    simp only
    by_cases h0 : asdE S a (-y.sum) = 0
    · rw [if_pos h0]
      exact ⟨h.del (h.kp.aside h0 (fun k => held_del h.rise hg k) (fun z hz => .inl (List.mem_filter.1 hz).1)), fun e => absurd h0 e⟩
    · rw [if_neg h0]
      have e : asdS S a (-y.sum) = S := act_err h0
      rw [e]
      exact ⟨h, fun _ => rfl⟩
theorem StB.take {S : List Ac} {H : List Hd} (h : StB S H) (a b : ByteArray) (n x : Int) : StB (takeSS S H a n b x) (takeHH S H a n b x) := by
  by_cases h0 : takeE S H a n b x = 0
  · unfold takeSS takeHH
    rw [if_pos h0, if_pos h0]
    unfold takeE at h0
    cases hg : getH H a.data.toList n with
    | none => rw [hg] at h0; cases h0
    | some y =>
      rw [hg] at h0
      simp only at h0
      split at h0
      · cases h0
      · split at h0
        · rename_i h1
          exact h.del ((h.kp.aside h1 (fun k => held_del h.rise hg k) (fun z hz => .inl (List.mem_filter.1 hz).1)).make _)
        · rename_i h1
          exact absurd h0 h1
  · unfold takeSS takeHH
    rw [if_neg h0, if_neg h0]
    exact h
theorem StB.post {S : List Ac} {H : List Hd} (h : StB S H) (L : List Lg) : StB (makeS S L) H := ⟨h.kp.make L, h.pos, h.rise, h.few⟩
theorem StB.open {S : List Ac} {H : List Hd} (h : StB S H) (nm : List UInt8) (lim : Int) (hl : In64 lim) : StB (openS S nm lim) H := ⟨h.kp.open nm lim hl, h.pos, h.rise, h.few⟩
end Go.Proofs.YtcpgamidimfflaaGreat
namespace Go.Proofs.YtcpgamidimfflaaGreat
open Go.RowKit Go.My Go.Maps
set_option linter.unusedSimpArgs false
set_option linter.unusedVariables false
structure Rp where
  err : Int
  hv : Int
  st : Int
  num : Int
instance : DecidableEq Rp := fun a b =>
  if h : a.err = b.err ∧ a.hv = b.hv ∧ a.st = b.st ∧ a.num = b.num then isTrue (by cases a; cases b; simp_all) else isFalse (fun e => h (by subst e; exact ⟨rfl, rfl, rfl, rfl⟩))
def Rp.ok (r : Rp) : Prop := In64 r.err ∧ In64 r.hv ∧ In64 r.st ∧ In64 r.num
def Rp.val (r : Rp) : Value := .agg #[.int .i64 r.err, .int .i64 r.hv, .int .i64 r.st, .int .i64 r.num]
end Go.Proofs.YtcpgamidimfflaaGreat
namespace Go.Proofs.YtcpgamidimfflaaGreat
open Go.RowKit Go.My Go.Maps
set_option linter.unusedSimpArgs false
set_option linter.unusedVariables false
structure Bk where
  S : List Ac
  H : List Hd
  cl : Int
def bk0 : Bk := ⟨[], [], 0⟩
def errR (e : Int) : Rp := ⟨e, 0, 0, 0⟩
def aboutR (S : List Ac) (nm : List UInt8) (e : Int) : Rp := if e = 0 then ⟨(if (getA S nm).isSome then 0 else 6), (getV S nm).hv, (getV S nm).st, 0⟩ else errR e
def numO (o : Od) : Int := wrap64 (1000 * o.cl + o.sq)
def numR (r : Rp) (n : Int) : Rp := if r.err = 0 then { r with num := n } else r
def effR (b : Bk) (o : Od) : Rp :=
  if o.kd = 1 then aboutR (openS b.S o.an o.sum) o.an (openE b.S o.an o.sum)
  else if o.kd = 2 then (if o.per ≤ b.cl then errR 10 else errR (checkE b.S o.legs))
  else if o.kd = 3 then numR (aboutR (putSS b.S b.H (numO o) o.an o.sum) o.an (putE b.S b.H (numO o) o.an o.sum)) (numO o)
  else if o.kd = 4 then (if o.per ≤ b.cl then errR 10 else aboutR (takeSS b.S b.H o.acct o.hold o.peer o.sum) o.an (takeE b.S b.H o.acct o.hold o.peer o.sum))
  else if o.kd = 5 then aboutR (freeSS b.S b.H o.an o.hold) o.an (freeE b.S b.H o.an o.hold)
  else if o.kd = 6 then (if o.per ≤ b.cl then errR 10 else ⟨0, 0, 0, o.per⟩)
  else aboutR b.S o.an 0
def effB (b : Bk) (o : Od) : Bk :=
  if o.kd = 1 then ⟨openS b.S o.an o.sum, b.H, b.cl⟩
  else if o.kd = 2 then (if o.per ≤ b.cl then b else ⟨makeS b.S o.legs, b.H, b.cl⟩)
  else if o.kd = 3 then ⟨putSS b.S b.H (numO o) o.an o.sum, putHH b.S b.H (numO o) o.an o.sum, b.cl⟩
  else if o.kd = 4 then (if o.per ≤ b.cl then b else ⟨takeSS b.S b.H o.acct o.hold o.peer o.sum, takeHH b.S b.H o.acct o.hold o.peer o.sum, b.cl⟩)
  else if o.kd = 5 then ⟨freeSS b.S b.H o.an o.hold, freeHH b.S b.H o.an o.hold, b.cl⟩
  else if o.kd = 6 then (if o.per ≤ b.cl then b else ⟨b.S, b.H, o.per⟩)
  else b
def doR (b : Bk) (o : Od) : Rp := if rightO o = true then effR b o else errR 1
def doB (b : Bk) (o : Od) : Bk := if rightO o = true then effB b o else b
def foldB : Bk → List Od → Bk
  | b, [] => b
  | b, o :: r => foldB (doB b o) r
def foldR : Bk → List Od → List Rp
  | _, [] => []
  | b, o :: r => doR b o :: foldR (doB b o) r
theorem foldB_append (b : Bk) (l m : List Od) : foldB b (l ++ m) = foldB (foldB b l) m := by
  induction l generalizing b with
  | nil => rfl
  | cons o r ih => exact ih _
theorem foldR_append (b : Bk) (l m : List Od) : foldR b (l ++ m) = foldR b l ++ foldR (foldB b l) m := by
  induction l generalizing b with
  | nil => rfl
  | cons o r ih =>
    show doR b o :: foldR (doB b o) (r ++ m) = _
    rw [ih]
    rfl
theorem foldR_length (b : Bk) (l : List Od) : (foldR b l).length = l.length := by
  induction l generalizing b with
  | nil => rfl
  | cons o r ih => show (foldR (doB b o) r).length + 1 = _; rw [ih]; rfl
structure BkI (b : Bk) : Prop where
  st : StB b.S b.H
  cl : 0 ≤ b.cl ∧ b.cl ≤ 1000
theorem bki0 : BkI bk0 := ⟨StB.none, by unfold bk0; exact ⟨Int.le_refl 0, by decide⟩⟩
theorem filter_or (p q : Hd → Bool) : ∀ l : List Hd, (l.filter fun x => p x || q x).length ≤ (l.filter p).length + (l.filter q).length
  | [] => by simp
  | x :: r => by
    have ih := filter_or p q r
    rw [List.filter_cons, List.filter_cons, List.filter_cons]
    cases p x <;> cases q x <;> simp <;> omega
theorem few_all {H : List Hd} (hf : ∀ nm, (ofH H nm).length ≤ 8) : ∀ S : List Ac, (H.filter fun x => S.any fun a => a.name == x.acct).length ≤ 8 * S.length
  | [] => by simp
  | a :: r => by
    have ih := few_all hf r
    have h1 := filter_or (fun x => a.name == x.acct) (fun x => r.any fun a => a.name == x.acct) H
    have h2 := hf a.name
    have h3 : (H.filter fun x => a.name == x.acct) = ofH H a.name := by
      unfold ofH
      apply List.filter_congr
      intro x _
      exact BEq.comm
    rw [h3] at h1
    have h4 : (H.filter fun x => (a :: r).any fun a => a.name == x.acct) = H.filter fun x => (a.name == x.acct) || (r.any fun a => a.name == x.acct) := by simp only [List.any_cons]
    rw [h4, List.length_cons]
    omega
theorem StB.len {S : List Ac} {H : List Hd} (h : StB S H) : H.length ≤ 96 := by
  have h1 := few_all h.few S
  have h2 : (H.filter fun x => S.any fun a => a.name == x.acct) = H := by
    rw [List.filter_eq_self]
    intro x hx
    have h3 := h.kp.own x hx
    cases hg : getA S x.acct with
    | none => rw [hg] at h3; cases h3
    | some a =>
      rw [List.any_eq_true]
      exact ⟨a, (getA_some hg).1, by simpa using (getA_some hg).2⟩
  rw [h2] at h1
  have := h.kp.inv.len
  omega
theorem right_kd {o : Od} (h : rightO o = true) : (1 ≤ o.kd ∧ o.kd ≤ 7) ∧ (0 ≤ o.cl ∧ o.cl ≤ 9 ∧ 1 ≤ o.sq ∧ o.sq ≤ 999) ∧ (o.kd = 2 ∨ o.kd = 6 ∨ nameB o.an = true) ∧ (o.kd = 2 ∨ o.kd = 4 ∨ o.kd = 6 → 1 ≤ o.per ∧ o.per ≤ 1000) := by
  unfold rightO idB at h
  simp only [Bool.and_eq_true, decide_eq_true_eq] at h
  obtain ⟨h1, h2, ⟨h3, h4, h5, h6⟩, ha, hp, hs, hl, hper, hh, hn⟩ := h
  refine ⟨⟨h1, h2⟩, ⟨h3, h4, h5, h6⟩, ?_, fun hk => ?_⟩
  · unfold acctB at ha
    split at ha
    · rename_i h; rcases h with h | h
      · exact .inl h
      · exact .inr (.inl h)
    · exact .inr (.inr ha)
  · unfold perB at hper
    rw [if_pos hk] at hper
    simpa using hper
theorem name_len {l : List UInt8} (h : nameB l = true) : l.length ≤ 8 := by
  unfold nameB at h
  simp only [Bool.and_eq_true, decide_eq_true_eq] at h
  exact h.2.2
theorem numO_eq {o : Od} (h : 0 ≤ o.cl ∧ o.cl ≤ 9 ∧ 1 ≤ o.sq ∧ o.sq ≤ 999) : numO o = 1000 * o.cl + o.sq := by
  unfold numO
  rw [IntWalk.wrap64_in _ ⟨by omega, by omega⟩]
theorem do_inv {b : Bk} (h : BkI b) {o : Od} (ho : o.ok) : BkI (doB b o) := by
  unfold doB
  by_cases hr : rightO o = true
  · rw [if_pos hr]
    obtain ⟨hk, hid, hnm, hper⟩ := right_kd hr
    have hsum : In64 o.sum := ho.2.2.2.2.2.1
    unfold effB
    by_cases k1 : o.kd = 1
    · rw [if_pos k1]; exact ⟨h.st.open _ _ hsum, h.cl⟩
    rw [if_neg k1]
    by_cases k2 : o.kd = 2
    · rw [if_pos k2]; split
      · exact h
      · exact ⟨h.st.post _, h.cl⟩
    rw [if_neg k2]
    by_cases k3 : o.kd = 3
    · rw [if_pos k3]
      refine ⟨h.st.put _ _ _ hsum.2 ?_, h.cl⟩
      rcases hnm with h1 | h1 | h1
      · omega
      · omega
      · exact name_len h1
    rw [if_neg k3]
    by_cases k4 : o.kd = 4
    · rw [if_pos k4]; split
      · exact h
      · exact ⟨h.st.take _ _ _ _, h.cl⟩
    rw [if_neg k4]
    by_cases k5 : o.kd = 5
    · rw [if_pos k5]; exact ⟨(h.st.free _ _).1, h.cl⟩
    rw [if_neg k5]
    by_cases k6 : o.kd = 6
    · rw [if_pos k6]; split
      · exact h
      · have := hper (.inr (.inr k6))
        exact ⟨h.st, by simp only; omega⟩
    rw [if_neg k6]
    exact h
  · rw [if_neg hr]; exact h
end Go.Proofs.YtcpgamidimfflaaGreat
set_option linter.unusedSimpArgs false
set_option linter.unusedVariables false
namespace Go.My
open Go Go.RowKit Go.Sort Go.Lib Go.Proofs
def Up (l : List (List UInt8)) : Prop := l.Pairwise (· < ·)
def ts (l : List (List UInt8)) : List Value := l.map encStr
theorem ts_length (l : List (List UInt8)) : (ts l).length = l.length := by simp [ts]
theorem take_putS (F : Array (List UInt8)) (cur : Array Value) (k : Nat) (hk : k ≤ F.size) (hl : F.size ≤ cur.size) : (putCells encStr 0 F cur).toList.take k = ts (F.toList.take k) := by
  apply List.ext_getElem?
  intro t
  rw [List.getElem?_take]
  unfold ts
  rw [List.getElem?_map, List.getElem?_take]
  by_cases h : t < k
  · rw [if_pos h, if_pos h]
    unfold putCells
    simp only [Array.getElem?_toList, Array.getElem?_mapIdx]
    rw [Array.getElem?_eq_getElem (by omega), Array.getElem?_eq_getElem (by omega)]
    simp only [Option.map_some]
    rw [if_pos ⟨by omega, by omega⟩, getElem!_pos F (t - 0) (by omega)]
    simp
  · rw [if_neg h, if_neg h]
    rfl
theorem own_put {w : World} {t : TypeId} {g n cap : Nat} {L : List (List UInt8)} (h : Own w t 1 (.slice (some ⟨g, 0, none⟩) n cap) n (ts L)) (q : Nat) (os : Array Obj) (F : Array (List UInt8)) (hF : F.size = n) (k : Nat) (hk : k ≤ n) :
    Own (grow (putRow encStr (Sort.ahead w q) g 0 F) os) t 1 (.slice (some ⟨g, 0, none⟩) k cap) k (ts (F.toList.take k)) ∧ Fr (At1 g) w (grow (putRow encStr (Sort.ahead w q) g 0 F) os) := by
  rcases h.2 with ⟨h0, _⟩ | ⟨g', cap', cur, hv, hg, hle, hm, hs, ht⟩
  · cases h0
  · injection hv with hA hn hc
    injection hA with hA
    injection hA with hA
    subst hA hc
    have hlt := (Array.getElem?_eq_some_iff.1 hg).1
    have hheap : (grow (putRow encStr (Sort.ahead w q) g 0 F) os).heap[g]? = some (.cells (putCells encStr 0 F cur) t (0, 0)) := by
      unfold putRow
      rw [heap_grow_old _ _ (by show g < (w.heap.modify g _).size; simpa using hlt)]
      show (w.heap.modify g _)[g]? = _
      rw [Array.getElem?_modify, if_pos rfl, hg]
      rfl
    constructor
    · refine ⟨by rw [ts_length, List.length_take, Array.length_toList]; omega, .inr ⟨g, cap, _, rfl, hheap, by omega, hm, ?_, ?_⟩⟩
      · unfold putCells
        simpa using hs
      · rw [Nat.mul_one]
        exact take_putS F cur k (by omega) (by omega)
    · refine ⟨rfl, rfl, rfl, ?_, fun i hi hn => ?_⟩
      · show w.heap.size ≤ ((w.heap.modify g _) ++ os).size
        simp
      · unfold putRow
        rw [heap_grow_old _ _ (by show i < (w.heap.modify g _).size; simpa using hi)]
        show (w.heap.modify g _)[i]? = _
        rw [Array.getElem?_modify, if_neg (fun e : g = i => hn e.symm)]
end Go.My
namespace Go.Proofs.YtcpgamidimfflaaGreat
open Go.RowKit Go.My Go.Maps Go.Sort Go.Lib
set_option linter.unusedSimpArgs false
set_option linter.unusedVariables false
end Go.Proofs.YtcpgamidimfflaaGreat
namespace Go.My
open Go.RowKit
set_option linter.unusedSimpArgs false
set_option linter.unusedVariables false
theorem run_app_make {P : Program} (w : World) (t u ty e : TypeId) (size bytes : Nat) (he : El P t e size bytes) (hu : P.underlying u = some (.int .i64)) (m : Nat) (hm : 0 < m) (h63 : m ≤ maxLen) (hbytes : m * bytes ≤ 140737488355328) :
    ∃ cap w' xs, (Builtin.append_ #[t, u] ty #[.slice none 0 0, .int .i64 (m : Int)]).run P w = .ok (.slice (some ⟨w.heap.size, 0, none⟩) m cap) w' ∧ Own w' e size (.slice (some ⟨w.heap.size, 0, none⟩) m cap) m xs ∧ Fr No w w' ∧ m ≤ cap ∧ cap ≤ maxLen := by
  obtain ⟨ht, ⟨i, z, hi, hz, hsize, hby, hzs⟩, hpos⟩ := he
  subst hsize
  subst hby
  have h63' : ¬ (9223372036854775807 < (m : Int)) := by simp only [maxLen] at h63; omega
  have hwr : IntKind.i64.wrap (m : Int) = (m : Int) := IntWalk.i64_in _ (by simp only [maxLen] at h63; omega)
  have hneg : ¬ ((m : Int) < 0) := by omega
  have hbi : ¬ (281474976710656 < (m : Int) * (i.bytes : Int)) := by
    have h : ((m * i.bytes : Nat) : Int) ≤ 140737488355328 := by omega
    rw [Int.natCast_mul] at h
    omega
  have h48' : ¬ (281474976710656 < Builtin.nextslicecap m 0 * i.bytes) := by rw [nextslicecap_zero (by omega)]; omega
  have hms : ¬ (m * i.size = 0) := by
    have := Nat.mul_pos hm hpos
    omega
  have hm0 : ¬ (m = 0) := by omega
  have hi0 : ¬ (i.size = 0) := by omega
  have hge := grownCap_ge w m 0 e
  have hcm : grownCap w m 0 e ≤ maxLen := grownCap_le_maxLen w m 0 e h63
  refine ⟨grownCap w m 0 e, w.drew.alloc (.cells (Builtin.zeroCells z.cells m ++ Builtin.zeroCells z.cells (grownCap w m 0 e - m)) e), (Builtin.zeroCells z.cells m).toList, ?_, ⟨by rw [Array.length_toList, size_zeroCells, hzs], .inr ⟨w.heap.size, _, _, rfl, heap_alloc_new w.drew _, hge, hcm, ?_, ?_⟩⟩, ((Fr.refl No w).drew).alloc _, hge, hcm⟩
  · simp [Builtin.append_, run_underlying ht, run_underlying hu, sizeOf, typeInfo, zeroValue, hi, hz, asInt, asIntOf, hwr, hneg, hbi, hms, hm0, hi0, h63', h48', Question.forced, run_firstCells_none, newRow, grownCap]
  · simp only [Array.size_append, size_zeroCells, hzs, ← Nat.add_mul]
    exact Nat.mul_le_mul_right _ (by omega)
  · simp only [Array.toList_append]
    exact List.take_left' (by rw [Array.length_toList, size_zeroCells, hzs])
theorem wpList_app_make {P : Program} (w : World) {ops : Array Oper} {rest : List Oper} {o : Oper} {a : Act} {Q : Exit → Act → World → Prop} (hgd : o.guard = none) (s x : Operand) (t u : TypeId)
    (ho : o.op = .call { callee := .builtin .append, args := #[s, x], argTypes := #[t, u] })
    {e : TypeId} {size bytes : Nat} (he : El P t e size bytes) (hu : P.underlying u = some (.int .i64)) (m : Nat) (hm : 0 < m) (hs : a.eval s = .slice none 0 0) (hx : a.eval x = .int .i64 (m : Int)) (h63 : m ≤ maxLen) (hbytes : m * bytes ≤ 140737488355328)
    (h : ∀ cap w' xs, Own w' e size (.slice (some ⟨w.heap.size, 0, none⟩) m cap) m xs → Fr No w w' → m ≤ cap → cap ≤ maxLen → wpList P ops Q rest (a.put o.dst (.slice (some ⟨w.heap.size, 0, none⟩) m cap)) w') : wpList P ops Q (o :: rest) a w := by
  refine wpList_plain hgd fun K hK => ?_
  obtain ⟨cap, w', xs, hr, h2, h3, h4, h5⟩ := run_app_make (P := P) w t u o.type e size bytes he hu m hm h63 hbytes
  unfold Oper.wp execOp
  simp only [ho, resolve, invoke, builtin, Sem.run_bind, Sem.run_pure, Result.andThen_ok, List.map_toArray, List.map_cons, List.map_nil, hs, hx, hr]
  exact hK _ _ (h cap w' xs h2 h3 h4 h5)
theorem Own.zero {w : World} {e : TypeId} {size n c : Nat} {A : Option Addr} {xs : List Value} (h : Own w e size (.slice A n c) n xs) : Own w e size (.slice A 0 c) 0 [] := by
  refine ⟨by simp, ?_⟩
  rcases h.2 with ⟨h0, h1⟩ | ⟨g, cap, cur, hv, hg, h1, h2, h3, h4⟩
  · injection h0 with h0 _ h2
    subst h0 h2
    exact .inl ⟨rfl, rfl⟩
  · injection hv with hA hn hc
    subst hA hc
    exact .inr ⟨g, c, cur, rfl, hg, Nat.zero_le _, h2, h3, by simp⟩
end Go.My
namespace Go.Proofs.YtcpgamidimfflaaGreat
open Go.RowKit Go.My Go.Maps Go.Sort Go.Lib
set_option linter.unusedSimpArgs false
set_option linter.unusedVariables false
end Go.Proofs.YtcpgamidimfflaaGreat
