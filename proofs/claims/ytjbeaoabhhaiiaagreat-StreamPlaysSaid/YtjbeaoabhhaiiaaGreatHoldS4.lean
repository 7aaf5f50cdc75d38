/- What holds and accounts keep between them: in lists. The laws on holds begin: accounts a, b, c. The steps of a script on holds: in lists, and done. -/
import Derived.Test.YtjbeaoabhhaiiaaGreatHoldS3
import Derived.Test.YtjbeaoabhhaiiaaGreatChartJ5
import Derived.Test.YtjbeaoabhhaiiaaGreatChartJ2
namespace Go.Proofs.YtjbeaoabhhaiiaaGreat
open Go.RowKit Go.My Go.Maps
set_option linter.unusedSimpArgs false
set_option linter.unusedVariables false

/-- what the holds of an account have together -/
def heldOf (H : List Hd) (nm : List UInt8) : Int := total ((ofH H nm).map Hd.sum)
theorem heldOf_cons (x : Hd) (H : List Hd) (nm : List UInt8) : heldOf (x :: H) nm = (if x.acct = nm then x.sum else 0) + heldOf H nm := by
  unfold heldOf ofH
  rw [List.filter_cons]
  by_cases e : x.acct = nm
  · rw [if_pos (by simpa using e), if_pos e, List.map_cons, total_cons]
  · rw [if_neg (by simpa using e), if_neg e]
    omega
theorem perm_insH (x : Hd) : ∀ H : List Hd, (insH x H).Perm (x :: H)
  | [] => List.Perm.refl _
  | b :: r => by
    unfold insH
    split
    · exact List.Perm.refl _
    · exact (List.Perm.cons b (perm_insH x r)).trans (List.Perm.swap x b r)
theorem heldOf_perm {G H : List Hd} (h : G.Perm H) (nm : List UInt8) : heldOf G nm = heldOf H nm := by
  induction h with
  | nil => rfl
  | cons x _ ih => rw [heldOf_cons, heldOf_cons, ih]
  | swap x y l => rw [heldOf_cons, heldOf_cons, heldOf_cons, heldOf_cons]; omega
  | trans _ _ ih1 ih2 => exact ih1.trans ih2
theorem perm_delH {a : List UInt8} {n : Int} {h : Hd} : ∀ H : List Hd, RiseH H → getH H a n = some h → H.Perm (h :: delH H a n)
  | [], _, e => by cases e
  | b :: r, hr, e => by
    obtain ⟨h1, h2⟩ := List.pairwise_cons.1 hr
    unfold getH at e
    rw [List.find?_cons] at e
    unfold delH
    rw [List.filter_cons]
    by_cases hb : b.at a n = true
    · rw [hb] at e ⊢
      simp only [Option.some.injEq] at e
      subst e
      have : r.filter (fun h => !h.at a n) = r := by
        rw [List.filter_eq_self]
        intro y hy
        cases hq : y.at a n with
        | false => rfl
        | true =>
          obtain ⟨e1, e2⟩ := Hd.at_iff.1 hb
          obtain ⟨e3, e4⟩ := Hd.at_iff.1 hq
          have := h1 y hy
          rw [hB_irrefl (e1.trans e3.symm) (e2.trans e4.symm)] at this
          cases this
      rw [this]
      simp
    · have hb' : b.at a n = false := by simpa using hb
      rw [hb'] at e ⊢
      simp only [Bool.not_false, if_true]
      exact (List.Perm.cons b (perm_delH r h2 e)).trans (List.Perm.swap h b _)
theorem held_ins (x : Hd) (H : List Hd) (nm : List UInt8) : heldOf (insH x H) nm = heldOf H nm + if nm = x.acct then x.sum else 0 := by
  rw [heldOf_perm (perm_insH x H), heldOf_cons]
  by_cases e : x.acct = nm
  · rw [if_pos e, if_pos e.symm]; omega
  · rw [if_neg e, if_neg (fun e2 => e e2.symm)]; omega
theorem held_del {H : List Hd} (hr : RiseH H) {a : List UInt8} {n : Int} {h : Hd} (e : getH H a n = some h) (nm : List UInt8) : heldOf (delH H a n) nm = heldOf H nm + if nm = a then -h.sum else 0 := by
  have h1 := heldOf_perm (perm_delH H hr e) nm
  rw [heldOf_cons, (getH_some e).2.1] at h1
  by_cases e : a = nm
  · rw [if_pos e] at h1; rw [if_pos e.symm]; omega
  · rw [if_neg e] at h1; rw [if_neg (fun e2 => e e2.symm)]; omega
theorem of_len_ins (x : Hd) (H : List Hd) (nm : List UInt8) : (ofH (insH x H) nm).length ≤ (ofH H nm).length + if nm = x.acct then 1 else 0 := by
  have : (ofH (insH x H) nm).Perm (ofH (x :: H) nm) := List.Perm.filter _ (perm_insH x H)
  rw [this.length_eq]
  unfold ofH
  rw [List.filter_cons]
  by_cases e : nm = x.acct
  · rw [if_pos e, if_pos (by simpa using e.symm)]; simp
  · rw [if_neg e, if_neg (by simpa using fun e2 => e e2.symm)]; simp
theorem of_len_del (H : List Hd) (a : List UInt8) (n : Int) (nm : List UInt8) : (ofH (delH H a n) nm).length ≤ (ofH H nm).length := by
  unfold ofH delH
  rw [List.filter_filter]
  induction H with
  | nil => simp
  | cons b r ih =>
    rw [List.filter_cons, List.filter_cons]
    split
    · rename_i h
      rw [if_pos (by simp only [Bool.and_eq_true] at h; exact h.1)]
      simpa using ih
    · split
      · simp only [List.length_cons]; omega
      · exact ih

/-- the accounts of the beginning -/
def abc : List (List UInt8) := [[97], [98], [99]]
structure Kp (S : List Ac) (H : List Hd) : Prop where
  inv : Inv S
  acc : ∀ nm, (getA S nm).isSome = true ↔ nm ∈ abc
  snd : ∀ nm a, getA S nm = some a → -a.lim ≤ a.hv - a.st
  set : ∀ nm a, getA S nm = some a → heldOf H nm = a.st
theorem Kp.good {S : List Ac} {H : List Hd} (h : Kp S H) : Snd S := fun a ha => h.snd a.name a (getA_mem h.inv.rise ha)
theorem getA_upd {S : List Ac} {k : List UInt8} {c c' : Ac} (hg : getA S k = some c) (hn : c'.name = c.name) (nm : List UInt8) : getA (putA c' S) nm = if nm = k then some c' else getA S nm := by
  have hk : c'.name = k := hn.trans (getA_some hg).2
  by_cases e : nm = k
  · rw [if_pos e, e, ← hk]
    exact getA_put_same S c'
  · rw [if_neg e]
    exact getA_put_other S c' nm (fun e2 => e (e2.trans hk))
theorem Kp.upd {S : List Ac} {H H' : List Hd} (h : Kp S H) {k : List UInt8} {c c' : Ac} (hg : getA S k = some c) (hn : c'.name = c.name) (hI : Inv (putA c' S)) (hs : -c'.lim ≤ c'.hv - c'.st) (hH : ∀ nm, heldOf H' nm = heldOf H nm + if nm = k then c'.st - c.st else 0) : Kp (putA c' S) H' where
  inv := hI
  acc nm := by
    rw [getA_upd hg hn]
    by_cases e : nm = k
    · rw [if_pos e, ← h.acc nm, e, hg]; simp
    · rw [if_neg e]; exact h.acc nm
  snd nm a ha := by
    rw [getA_upd hg hn] at ha
    by_cases e : nm = k
    · rw [if_pos e] at ha
      injection ha with ha
      subst ha
      exact hs
    · rw [if_neg e] at ha
      exact h.snd nm a ha
  set nm a ha := by
    rw [getA_upd hg hn] at ha
    rw [hH]
    by_cases e : nm = k
    · rw [if_pos e] at ha ⊢
      injection ha with ha
      subst ha
      have := h.set k c hg
      rw [e]
      omega
    · rw [if_neg e] at ha ⊢
      have := h.set nm a ha
      omega
theorem Kp.give {S : List Ac} {H : List Hd} (h : Kp S H) (nm : List UInt8) (x : Int) : Kp (actS (fun a => giveE a x) (fun a => giveA a x) S nm) H := by
  have hI := inv_give h.inv nm x
  unfold actS at hI ⊢
  cases hg : getA S nm with
  | none => exact h
  | some a =>
    rw [hg] at hI
    simp only at hI ⊢
    by_cases h0 : giveE a x = 0
    · rw [if_pos h0] at hI ⊢
      have e : giveA a x = { a with hv := a.hv - x } := by unfold giveA; rw [if_pos h0]
      rw [e] at hI ⊢
      refine h.upd hg rfl hI ?_ (fun k => by simp)
      have h1 := h.snd nm a hg
      unfold giveE at h0
      split at h0
      · split at h0
        · cases h0
        · rename_i h2
          unfold freeB at h2
          simp only [decide_eq_false_iff_not, not_and, Classical.not_not] at h2
          simp only
          by_cases hx : 0 < x
          · have := h2 hx; omega
          · omega
      · cases h0
    · rw [if_neg h0]
      exact h
theorem Kp.leg {S : List Ac} {H : List Hd} (h : Kp S H) (g : Lg) : Kp (legS S g) H := by
  unfold legS
  split
  · exact h.give _ _
  · exact h
theorem Kp.legs {S : List Ac} {H : List Hd} (h : Kp S H) (L : List Lg) : Kp (legsS S L) H := by
  induction L generalizing S with
  | nil => exact h
  | cons g r ih =>
    unfold legsS
    split
    · exact ih (h.leg g)
    · exact h
theorem Kp.make {S : List Ac} {H : List Hd} (h : Kp S H) (L : List Lg) : Kp (makeS S L) H := by
  unfold makeS
  split
  · exact h.legs L
  · exact h
/-- set aside, and held -/
theorem Kp.aside {S : List Ac} {H H' : List Hd} (h : Kp S H) {nm : List UInt8} {x : Int} (h0 : asdE S nm x = 0) (hH : ∀ k, heldOf H' k = heldOf H k + if k = nm then x else 0) : Kp (asdS S nm x) H' := by
  have hI := inv_aside h.inv nm x
  unfold asdE actE at h0
  unfold asdS actS at hI ⊢
  cases hg : getA S nm with
  | none => rw [hg] at h0; cases h0
  | some a =>
    rw [hg] at hI h0
    simp only at hI h0 ⊢
    rw [if_pos h0] at hI ⊢
    have e : asideA a x = { a with st := a.st + x } := by unfold asideA; rw [if_pos h0]
    rw [e] at hI ⊢
    refine h.upd hg rfl hI ?_ (fun k => by rw [hH k]; simp only; split <;> omega)
    have h1 := h.snd nm a hg
    unfold asideE at h0
    split at h0
    · split at h0
      · cases h0
      · rename_i h2
        unfold freeB at h2
        simp only [decide_eq_false_iff_not, not_and, Classical.not_not] at h2
        simp only
        by_cases hx : 0 < x
        · have := h2 hx; omega
        · omega
    · cases h0
end Go.Proofs.YtjbeaoabhhaiiaaGreat

namespace Go.Proofs.YtjbeaoabhhaiiaaGreat
open Go.RowKit Go.My Go.Maps
set_option linter.unusedSimpArgs false
set_option linter.unusedVariables false
attribute [local go_sem ↓] Go.wp_at_zero Go.wp_at_succ

def aA (x : Int) : Ac := ⟨[97], x, 0, 0⟩
def aB (x : Int) : Ac := ⟨[98], x, 0, 5⟩
def aC : Ac := ⟨[99], 0, 0, 10⟩
theorem bo1 : openE [] [97] 0 = 0 ∧ openS [] [97] 0 = [aA 0] := by
  have h : openE [] [97] 0 = 0 := by decide
  exact ⟨h, by unfold openS; rw [h]; rfl⟩
theorem bo2 : openE [aA 0] [98] 5 = 0 ∧ openS [aA 0] [98] 5 = [aA 0, aB 0] := by
  have h : openE [aA 0] [98] 5 = 0 := by decide
  exact ⟨h, by unfold openS; rw [h]; rfl⟩
theorem bo3 : openE [aA 0, aB 0] [99] 10 = 0 ∧ openS [aA 0, aB 0] [99] 10 = [aA 0, aB 0, aC] := by
  have h : openE [aA 0, aB 0] [99] 10 = 0 := by decide
  exact ⟨h, by unfold openS; rw [h]; rfl⟩
theorem bg1 : actE (fun a => giveE a (-30)) [aA 0, aB 0, aC] [97] = 0 ∧ actS (fun a => giveE a (-30)) (fun a => giveA a (-30)) [aA 0, aB 0, aC] [97] = [aA 30, aB 0, aC] := by
  have h0 : giveE (aA 0) (-30) = 0 := by unfold giveE freeB In64 aA; simp
  have h1 : getA [aA 0, aB 0, aC] [97] = some (aA 0) := rfl
  refine ⟨by unfold actE; rw [h1]; exact h0, ?_⟩
  unfold actS
  rw [h1]
  simp only
  rw [if_pos h0]
  unfold giveA
  rw [if_pos h0]
  rfl
theorem bg2 : actE (fun a => giveE a (-10)) [aA 30, aB 0, aC] [98] = 0 ∧ actS (fun a => giveE a (-10)) (fun a => giveA a (-10)) [aA 30, aB 0, aC] [98] = [aA 30, aB 10, aC] := by
  have h0 : giveE (aB 0) (-10) = 0 := by unfold giveE freeB In64 aB; simp
  have h1 : getA [aA 30, aB 0, aC] [98] = some (aB 0) := rfl
  refine ⟨by unfold actE; rw [h1]; exact h0, ?_⟩
  unfold actS
  rw [h1]
  simp only
  rw [if_pos h0]
  unfold giveA
  rw [if_pos h0]
  rfl
def abcS : List Ac := [aA 30, aB 10, aC]
theorem invB (x y : Int) (hx : In64 x) (hy : In64 y) : Inv [aA x, aB y, aC] where
  ok a h := by
    simp only [List.mem_cons, List.not_mem_nil, or_false] at h
    rcases h with rfl | rfl | rfl <;> unfold OkA <;> simp [aA, aB, aC, hx, hy] <;> unfold In64 <;> simp
  nm a h := by
    simp only [List.mem_cons, List.not_mem_nil, or_false] at h
    rcases h with rfl | rfl | rfl <;> simp [aA, aB, aC]
  len := by simp
  rise := by
    unfold Rise
    simp only [List.pairwise_cons, List.mem_cons, List.not_mem_nil, or_false]
    refine ⟨fun b hb => ?_, fun b hb => ?_, ?_⟩
    · rcases hb with rfl | rfl <;> rfl
    · rw [hb]; rfl
    · simp
theorem inv0 : Inv [] where
  ok a h := by cases h
  nm a h := by cases h
  len := by simp
  rise := List.Pairwise.nil
theorem inv1 : Inv [aA 0] := by have := inv_open inv0 [97] 0 (by unfold In64; omega); rwa [bo1.2] at this
theorem inv2 : Inv [aA 0, aB 0] := by have := inv_open inv1 [98] 5 (by unfold In64; omega); rwa [bo2.2] at this
theorem kpB : Kp abcS [] where
  inv := invB 30 10 (by unfold In64; omega) (by unfold In64; omega)
  acc nm := by
    unfold abcS getA abc
    simp only [List.find?_isSome, List.mem_cons, List.not_mem_nil, or_false, aA, aB, aC, beq_iff_eq]
    constructor
    · rintro ⟨x, rfl | rfl | rfl, rfl⟩ <;> simp
    · rintro (rfl | rfl | rfl)
      · exact ⟨_, .inl rfl, rfl⟩
      · exact ⟨_, .inr (.inl rfl), rfl⟩
      · exact ⟨_, .inr (.inr rfl), rfl⟩
  snd nm a h := by
    have := (getA_some h).1
    simp only [abcS, List.mem_cons, List.not_mem_nil, or_false] at this
    rcases this with rfl | rfl | rfl <;> simp [aA, aB, aC]
  set nm a h := by
    have := (getA_some h).1
    simp only [abcS, List.mem_cons, List.not_mem_nil, or_false] at this
    rcases this with rfl | rfl | rfl <;> rfl
/-- the beginning -/
def Begun (w : World) (e : Ending) (w' : World) : Prop := ∃ p m q, e = .returned (.tuple #[.pointer (some ⟨p, 0, none⟩), .pointer (some ⟨q, 0, none⟩)]) ∧ ChS w' p m abcS ∧ RfS w' q abcS ∧ Fr No w w' ∧ w.heap.size ≤ p ∧ w.heap.size ≤ m ∧ w.heap.size ≤ q
end Go.Proofs.YtjbeaoabhhaiiaaGreat

namespace Go.Proofs.YtjbeaoabhhaiiaaGreat
open Go.RowKit Go.My Go.Maps
set_option linter.unusedSimpArgs false
set_option linter.unusedVariables false

/-- a step -/
structure OpH where
  kind : Int
  num : Int
  acct : ByteArray
  peer : ByteArray
  sum : Int
def OpH.ok (o : OpH) : Prop := In64 o.kind ∧ In64 o.num ∧ o.acct.size ≤ maxLen ∧ o.peer.size ≤ maxLen ∧ In64 o.sum
def OpH.nm (o : OpH) : List UInt8 := o.acct.data.toList
def OpH.val (o : OpH) : Value := .agg #[.int .i64 o.kind, .int .i64 o.num, .string o.acct, .string o.peer, .int .i64 o.sum]
def RdOH (cs : List Value) (o : OpH) : Prop := cs = [.int .i64 o.kind, .int .i64 o.num, .string o.acct, .string o.peer, .int .i64 o.sum] ∧ o.ok
def kindH (k : Int) : Int := (k % 18446744073709551616) % 4
theorem kindH_bd (k : Int) : kindH k = 0 ∨ kindH k = 1 ∨ kindH k = 2 ∨ kindH k = 3 := by unfold kindH; omega
def doesHE (S : List Ac) (H : List Hd) (o : OpH) : Int :=
  if kindH o.kind = 0 then putE S H o.num o.nm o.sum else if kindH o.kind = 1 then takeE S H o.acct o.num o.peer o.sum else if kindH o.kind = 2 then freeE S H o.nm o.num else actE (fun a => giveE a o.sum) S o.nm
def doesHS (S : List Ac) (H : List Hd) (o : OpH) : List Ac :=
  if kindH o.kind = 0 then putSS S H o.num o.nm o.sum else if kindH o.kind = 1 then takeSS S H o.acct o.num o.peer o.sum else if kindH o.kind = 2 then freeSS S H o.nm o.num else actS (fun a => giveE a o.sum) (fun a => giveA a o.sum) S o.nm
def doesHH (S : List Ac) (H : List Hd) (o : OpH) : List Hd :=
  if kindH o.kind = 0 then putHH S H o.num o.nm o.sum else if kindH o.kind = 1 then takeHH S H o.acct o.num o.peer o.sum else if kindH o.kind = 2 then freeHH S H o.nm o.num else H

structure St (S : List Ac) (H : List Hd) : Prop where
  kp : Kp S H
  pos : PosH H
  rise : RiseH H
  few : ∀ nm, (ofH H nm).length ≤ 8
theorem asd_some {S : List Ac} {nm : List UInt8} {x : Int} (h : asdE S nm x = 0) : (getA S nm).isSome = true := by
  unfold asdE actE at h
  cases hg : getA S nm with
  | none => rw [hg] at h; cases h
  | some a => rfl
theorem abc_len {nm : List UInt8} (h : nm ∈ abc) : nm.length ≤ 8 := by
  simp only [abc, List.mem_cons, List.not_mem_nil, or_false] at h
  rcases h with rfl | rfl | rfl <;> simp
theorem put_zero {S : List Ac} {H : List Hd} {n x : Int} {a : List UInt8} (h : putE S H n a x = 0) : 1 ≤ n ∧ n ≤ 9999 ∧ 0 < x ∧ getH H a n = none ∧ (ofH H a).length < 8 ∧ asdE S a x = 0 := by
  unfold putE at h
  split at h
  · cases h
  · rename_i h1
    split at h
    · cases h
    · rename_i h2
      split at h
      · cases h
      · exact ⟨by omega, by omega, by omega, by simpa using h2, by omega, h⟩
theorem St.del {S S' : List Ac} {H : List Hd} {a : List UInt8} {n : Int} (h : St S H) (hk : Kp S' (delH H a n)) : St S' (delH H a n) :=
  ⟨hk, fun y hy => h.pos y (List.mem_filter.1 hy).1, rise_filter h.rise _, fun nm => Nat.le_trans (of_len_del H _ _ nm) (h.few nm)⟩
theorem St.put {S : List Ac} {H : List Hd} (h : St S H) (n x : Int) (a : List UInt8) (hx : x ≤ 9223372036854775807) : St (putSS S H n a x) (putHH S H n a x) := by
  by_cases h0 : putE S H n a x = 0
  · obtain ⟨h1, h2, h3, h4, h5, h6⟩ := put_zero h0
    unfold putSS putHH
    rw [if_pos h0, if_pos h0]
    refine ⟨h.kp.aside h6 (fun k => held_ins ⟨n, a, x⟩ H k), fun y hy => ?_, rise_insH _ _ h.rise h4, fun nm => ?_⟩
    · rcases (mem_insH _ _ _).1 hy with rfl | hy
      · exact ⟨h1, h2, h3, hx, abc_len ((h.kp.acc a).1 (asd_some h6))⟩
      · exact h.pos y hy
    · have := of_len_ins ⟨n, a, x⟩ H nm
      simp only at this
      by_cases e : nm = a
      · subst e
        rw [if_pos rfl] at this
        omega
      · rw [if_neg e] at this
        have := h.few nm
        omega
  · unfold putSS putHH
    rw [if_neg h0, if_neg h0]
    exact h
theorem St.free {S : List Ac} {H : List Hd} (h : St S H) (a : List UInt8) (n : Int) : St (freeSS S H a n) (freeHH S H a n) ∧ (freeE S H a n ≠ 0 → freeSS S H a n = S) := by
  unfold freeHH freeSS freeE
  cases hg : getH H a n with
  | none => exact ⟨h, fun _ => rfl⟩
  | some y =>
    simp only
    by_cases h0 : asdE S a (-y.sum) = 0
    · rw [if_pos h0]
      exact ⟨h.del (h.kp.aside h0 (fun k => held_del h.rise hg k)), fun e => absurd h0 e⟩
    · rw [if_neg h0]
      have e : asdS S a (-y.sum) = S := act_err h0
      rw [e]
      exact ⟨h, fun _ => rfl⟩
theorem St.take {S : List Ac} {H : List Hd} (h : St S H) (a b : ByteArray) (n x : Int) : St (takeSS S H a n b x) (takeHH S H a n b x) := by
  by_cases h0 : takeE S H a n b x = 0
  · unfold takeSS takeHH
    rw [if_pos h0, if_pos h0]
    unfold takeE at h0
    cases hg : getH H a.data.toList n with
    | none => rw [hg] at h0; cases h0
    | some y =>
      rw [hg] at h0
      simp only at h0
      split at h0
      · cases h0
      · split at h0
        · rename_i h1
          exact h.del ((h.kp.aside h1 (fun k => held_del h.rise hg k)).make _)
        · rename_i h1
          exact absurd h0 h1
  · unfold takeSS takeHH
    rw [if_neg h0, if_neg h0]
    exact h
theorem len_del_le (H : List Hd) (a : List UInt8) (n : Int) : (delH H a n).length ≤ H.length := List.length_filter_le _ _
theorem St.does {S : List Ac} {H : List Hd} (h : St S H) (o : OpH) (ho : o.ok) : St (doesHS S H o) (doesHH S H o) ∧ (doesHE S H o ≠ 0 → doesHS S H o = S ∧ doesHH S H o = H) ∧ (doesHH S H o).length ≤ H.length + 1 := by
  unfold doesHS doesHH doesHE
  rcases kindH_bd o.kind with hk | hk | hk | hk <;> rw [hk]
  · simp only [if_true]
    refine ⟨h.put _ _ _ (by have := ho.2.2.2.2; unfold In64 at this; omega), fun hne => ?_, ?_⟩
    · unfold putSS putHH
      rw [if_neg hne, if_neg hne]
      exact ⟨rfl, rfl⟩
    · unfold putHH
      split
      · rw [len_insH]; omega
      · omega
  · simp only [show ¬ ((1 : Int) = 0) by decide, if_false, if_true]
    refine ⟨h.take _ _ _ _, fun hne => ?_, ?_⟩
    · unfold takeSS takeHH
      rw [if_neg hne, if_neg hne]
      exact ⟨rfl, rfl⟩
    · unfold takeHH
      split
      · have := len_del_le H o.acct.data.toList o.num; omega
      · omega
  · simp only [show ¬ ((2 : Int) = 0) by decide, show ¬ ((2 : Int) = 1) by decide, if_false, if_true]
    refine ⟨(h.free _ _).1, fun hne => ⟨(h.free _ _).2 hne, ?_⟩, ?_⟩
    · unfold freeHH
      rw [if_neg hne]
    · unfold freeHH
      split
      · have := len_del_le H o.nm o.num; omega
      · omega
  · simp only [show ¬ ((3 : Int) = 0) by decide, show ¬ ((3 : Int) = 1) by decide, show ¬ ((3 : Int) = 2) by decide, if_false]
    exact ⟨⟨h.kp.give _ _, h.pos, h.rise, h.few⟩, fun hne => ⟨act_err hne, trivial⟩, by omega⟩
theorem stB : St abcS [] := ⟨kpB, (fun h hh => by cases hh), List.Pairwise.nil, (fun nm => by simp [ofH])⟩

end Go.Proofs.YtjbeaoabhhaiiaaGreat
