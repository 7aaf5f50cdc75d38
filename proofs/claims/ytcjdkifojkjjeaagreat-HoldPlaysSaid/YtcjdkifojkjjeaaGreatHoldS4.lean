/- What holds and accounts keep between them: in lists. The laws on holds begin: accounts a, b, c. The steps of a script on holds: in lists, and done. -/
import Derived.Test.YtcjdkifojkjjeaaGreatHoldS3
import Derived.Test.YtcjdkifojkjjeaaGreatChartJ5
import Derived.Test.YtcjdkifojkjjeaaGreatChartJ2
namespace Go.Proofs.YtcjdkifojkjjeaaGreat
open Go.RowKit Go.My Go.Maps
set_option linter.unusedSimpArgs false
set_option linter.unusedVariables false

/-- what the holds of an account have together -/
def heldOf (H : List Hd) (nm : List UInt8) : Int := total ((ofH H nm).map Hd.sum)
theorem heldOf_cons (x : Hd) (H : List Hd) (nm : List UInt8) : heldOf (x :: H) nm = (if x.acct = nm then x.sum else 0) + heldOf H nm := by
  unfold heldOf ofH
  rw [List.filter_cons]
  by_cases e : x.acct = nm
  · rw [if_pos (by simpa using e), if_pos e, List.map_cons, total_cons]
  · rw [if_neg (by simpa using e), if_neg e]
    omega
theorem perm_insH (x : Hd) : ∀ H : List Hd, (insH x H).Perm (x :: H)
  | [] => List.Perm.refl _
  | b :: r => by
    unfold insH
    split
    · exact List.Perm.refl _
    · exact (List.Perm.cons b (perm_insH x r)).trans (List.Perm.swap x b r)
theorem heldOf_perm {G H : List Hd} (h : G.Perm H) (nm : List UInt8) : heldOf G nm = heldOf H nm := by
  induction h with
  | nil => rfl
  | cons x _ ih => rw [heldOf_cons, heldOf_cons, ih]
  | swap x y l => rw [heldOf_cons, heldOf_cons, heldOf_cons, heldOf_cons]; omega
  | trans _ _ ih1 ih2 => exact ih1.trans ih2
theorem perm_delH {a : List UInt8} {n : Int} {h : Hd} : ∀ H : List Hd, RiseH H → getH H a n = some h → H.Perm (h :: delH H a n)
  | [], _, e => by cases e
  | b :: r, hr, e => by
    obtain ⟨h1, h2⟩ := List.pairwise_cons.1 hr
    unfold getH at e
    rw [List.find?_cons] at e
    unfold delH
    rw [List.filter_cons]
    by_cases hb : b.at a n = true
    · rw [hb] at e ⊢
      simp only [Option.some.injEq] at e
      subst e
      have : r.filter (fun h => !h.at a n) = r := by
        rw [List.filter_eq_self]
        intro y hy
        cases hq : y.at a n with
        | false => rfl
        | true =>
          obtain ⟨e1, e2⟩ := Hd.at_iff.1 hb
          obtain ⟨e3, e4⟩ := Hd.at_iff.1 hq
          have := h1 y hy
          rw [hB_irrefl (e1.trans e3.symm) (e2.trans e4.symm)] at this
          cases this
      rw [this]
      simp
    · have hb' : b.at a n = false := by simpa using hb
      rw [hb'] at e ⊢
      simp only [Bool.not_false, if_true]
      exact (List.Perm.cons b (perm_delH r h2 e)).trans (List.Perm.swap h b _)
theorem held_ins (x : Hd) (H : List Hd) (nm : List UInt8) : heldOf (insH x H) nm = heldOf H nm + if nm = x.acct then x.sum else 0 := by
  rw [heldOf_perm (perm_insH x H), heldOf_cons]
  by_cases e : x.acct = nm
  · rw [if_pos e, if_pos e.symm]; omega
  · rw [if_neg e, if_neg (fun e2 => e e2.symm)]; omega
theorem held_del {H : List Hd} (hr : RiseH H) {a : List UInt8} {n : Int} {h : Hd} (e : getH H a n = some h) (nm : List UInt8) : heldOf (delH H a n) nm = heldOf H nm + if nm = a then -h.sum else 0 := by
  have h1 := heldOf_perm (perm_delH H hr e) nm
  rw [heldOf_cons, (getH_some e).2.1] at h1
  by_cases e : a = nm
  · rw [if_pos e] at h1; rw [if_pos e.symm]; omega
  · rw [if_neg e] at h1; rw [if_neg (fun e2 => e e2.symm)]; omega
theorem of_len_ins (x : Hd) (H : List Hd) (nm : List UInt8) : (ofH (insH x H) nm).length ≤ (ofH H nm).length + if nm = x.acct then 1 else 0 := by
  have : (ofH (insH x H) nm).Perm (ofH (x :: H) nm) := List.Perm.filter _ (perm_insH x H)
  rw [this.length_eq]
  unfold ofH
  rw [List.filter_cons]
  by_cases e : nm = x.acct
  · rw [if_pos e, if_pos (by simpa using e.symm)]; simp
  · rw [if_neg e, if_neg (by simpa using fun e2 => e e2.symm)]; simp
theorem of_len_del (H : List Hd) (a : List UInt8) (n : Int) (nm : List UInt8) : (ofH (delH H a n) nm).length ≤ (ofH H nm).length := by
  unfold ofH delH
  rw [List.filter_filter]
  induction H with
  | nil => simp
  | cons b r ih =>
    rw [List.filter_cons, List.filter_cons]
    split
    · rename_i h
      rw [if_pos (by simp only [Bool.and_eq_true] at h; exact h.1)]
      simpa using ih
    · split
      · simp only [List.length_cons]; omega
      · exact ih

/-- the accounts of the beginning -/
def abc : List (List UInt8) := [[97], [98], [99]]
structure Kp (S : List Ac) (H : List Hd) : Prop where
  inv : Inv S
  acc : ∀ nm, (getA S nm).isSome = true ↔ nm ∈ abc
  snd : ∀ nm a, getA S nm = some a → -a.lim ≤ a.hv - a.st
  set : ∀ nm a, getA S nm = some a → heldOf H nm = a.st
theorem Kp.good {S : List Ac} {H : List Hd} (h : Kp S H) : Snd S := fun a ha => h.snd a.name a (getA_mem h.inv.rise ha)
theorem getA_upd {S : List Ac} {k : List UInt8} {c c' : Ac} (hg : getA S k = some c) (hn : c'.name = c.name) (nm : List UInt8) : getA (putA c' S) nm = if nm = k then some c' else getA S nm := by
  have hk : c'.name = k := hn.trans (getA_some hg).2
  by_cases e : nm = k
  · rw [if_pos e, e, ← hk]
    exact getA_put_same S c'
  · rw [if_neg e]
    exact getA_put_other S c' nm (fun e2 => e (e2.trans hk))
theorem Kp.upd {S : List Ac} {H H' : List Hd} (h : Kp S H) {k : List UInt8} {c c' : Ac} (hg : getA S k = some c) (hn : c'.name = c.name) (hI : Inv (putA c' S)) (hs : -c'.lim ≤ c'.hv - c'.st) (hH : ∀ nm, heldOf H' nm = heldOf H nm + if nm = k then c'.st - c.st else 0) : Kp (putA c' S) H' where
  inv := hI
  acc nm := by
    rw [getA_upd hg hn]
    by_cases e : nm = k
    · rw [if_pos e, ← h.acc nm, e, hg]; simp
    · rw [if_neg e]; exact h.acc nm
  snd nm a ha := by
    rw [getA_upd hg hn] at ha
    by_cases e : nm = k
    · rw [if_pos e] at ha
      injection ha with ha
      subst ha
      exact hs
    · rw [if_neg e] at ha
      exact h.snd nm a ha
  set nm a ha := by
    rw [getA_upd hg hn] at ha
    rw [hH]
    by_cases e : nm = k
    · rw [if_pos e] at ha ⊢
      injection ha with ha
      subst ha
      have := h.set k c hg
      rw [e]
      omega
    · rw [if_neg e] at ha ⊢
      have := h.set nm a ha
      omega
theorem Kp.give {S : List Ac} {H : List Hd} (h : Kp S H) (nm : List UInt8) (x : Int) : Kp (actS (fun a => giveE a x) (fun a => giveA a x) S nm) H := by
  have hI := inv_give h.inv nm x
  unfold actS at hI ⊢
  cases hg : getA S nm with
  | none => exact h
  | some a =>
    rw [hg] at hI
    simp only at hI ⊢
    by_cases h0 : giveE a x = 0
    · rw [if_pos h0] at hI ⊢
      have e : giveA a x = { a with hv := a.hv - x } := by unfold giveA; rw [if_pos h0]
      rw [e] at hI ⊢
      refine h.upd hg rfl hI ?_ (fun k => by simp)
      have h1 := h.snd nm a hg
      unfold giveE at h0
      split at h0
      · split at h0
        · cases h0
        · rename_i h2
          unfold freeB at h2
          simp only [decide_eq_false_iff_not, not_and, Classical.not_not] at h2
          simp only
          by_cases hx : 0 < x
          · have := h2 hx; omega
          · omega
      · cases h0
    · rw [if_neg h0]
      exact h
theorem Kp.leg {S : List Ac} {H : List Hd} (h : Kp S H) (g : Lg) : Kp (legS S g) H := by
  unfold legS
  split
  · exact h.give _ _
  · exact h
theorem Kp.legs {S : List Ac} {H : List Hd} (h : Kp S H) (L : List Lg) : Kp (legsS S L) H := by
  induction L generalizing S with
  | nil => exact h
  | cons g r ih =>
    unfold legsS
    split
    · exact ih (h.leg g)
    · exact h
theorem Kp.make {S : List Ac} {H : List Hd} (h : Kp S H) (L : List Lg) : Kp (makeS S L) H := by
  unfold makeS
  split
  · exact h.legs L
  · exact h
/-- set aside, and held -/
theorem Kp.aside {S : List Ac} {H H' : List Hd} (h : Kp S H) {nm : List UInt8} {x : Int} (h0 : asdE S nm x = 0) (hH : ∀ k, heldOf H' k = heldOf H k + if k = nm then x else 0) : Kp (asdS S nm x) H' := by
  have hI := inv_aside h.inv nm x
  unfold asdE actE at h0
  unfold asdS actS at hI ⊢
  cases hg : getA S nm with
  | none => rw [hg] at h0; cases h0
  | some a =>
    rw [hg] at hI h0
    simp only at hI h0 ⊢
    rw [if_pos h0] at hI ⊢
    have e : asideA a x = { a with st := a.st + x } := by unfold asideA; rw [if_pos h0]
    rw [e] at hI ⊢
    refine h.upd hg rfl hI ?_ (fun k => by rw [hH k]; simp only; split <;> omega)
    have h1 := h.snd nm a hg
    unfold asideE at h0
    split at h0
    · split at h0
      · cases h0
      · rename_i h2
        unfold freeB at h2
        simp only [decide_eq_false_iff_not, not_and, Classical.not_not] at h2
        simp only
        by_cases hx : 0 < x
        · have := h2 hx; omega
        · omega
    · cases h0
end Go.Proofs.YtcjdkifojkjjeaaGreat

namespace Go.Proofs.YtcjdkifojkjjeaaGreat
open Go.RowKit Go.My Go.Maps
set_option linter.unusedSimpArgs false
set_option linter.unusedVariables false
attribute [local go_sem ↓] Go.wp_at_zero Go.wp_at_succ

def aA (x : Int) : Ac := ⟨[97], x, 0, 0⟩
def aB (x : Int) : Ac := ⟨[98], x, 0, 5⟩
def aC : Ac := ⟨[99], 0, 0, 10⟩
theorem bo1 : openE [] [97] 0 = 0 ∧ openS [] [97] 0 = [aA 0] := by
  have h : openE [] [97] 0 = 0 := by decide
  exact ⟨h, by unfold openS; rw [h]; rfl⟩
theorem bo2 : openE [aA 0] [98] 5 = 0 ∧ openS [aA 0] [98] 5 = [aA 0, aB 0] := by
  have h : openE [aA 0] [98] 5 = 0 := by decide
  exact ⟨h, by unfold openS; rw [h]; rfl⟩
theorem bo3 : openE [aA 0, aB 0] [99] 10 = 0 ∧ openS [aA 0, aB 0] [99] 10 = [aA 0, aB 0, aC] := by
  have h : openE [aA 0, aB 0] [99] 10 = 0 := by decide
  exact ⟨h, by unfold openS; rw [h]; rfl⟩
theorem bg1 : actE (fun a => giveE a (-30)) [aA 0, aB 0, aC] [97] = 0 ∧ actS (fun a => giveE a (-30)) (fun a => giveA a (-30)) [aA 0, aB 0, aC] [97] = [aA 30, aB 0, aC] := by
  have h0 : giveE (aA 0) (-30) = 0 := by unfold giveE freeB In64 aA; simp
  have h1 : getA [aA 0, aB 0, aC] [97] = some (aA 0) := rfl
  refine ⟨by unfold actE; rw [h1]; exact h0, ?_⟩
  unfold actS
  rw [h1]
  simp only
  rw [if_pos h0]
  unfold giveA
  rw [if_pos h0]
  rfl
theorem bg2 : actE (fun a => giveE a (-10)) [aA 30, aB 0, aC] [98] = 0 ∧ actS (fun a => giveE a (-10)) (fun a => giveA a (-10)) [aA 30, aB 0, aC] [98] = [aA 30, aB 10, aC] := by
  have h0 : giveE (aB 0) (-10) = 0 := by unfold giveE freeB In64 aB; simp
  have h1 : getA [aA 30, aB 0, aC] [98] = some (aB 0) := rfl
  refine ⟨by unfold actE; rw [h1]; exact h0, ?_⟩
  unfold actS
  rw [h1]
  simp only
  rw [if_pos h0]
  unfold giveA
  rw [if_pos h0]
  rfl
def abcS : List Ac := [aA 30, aB 10, aC]
theorem invB (x y : Int) (hx : In64 x) (hy : In64 y) : Inv [aA x, aB y, aC] where
  ok a h := by
    simp only [List.mem_cons, List.not_mem_nil, or_false] at h
    rcases h with rfl | rfl | rfl <;> unfold OkA <;> simp [aA, aB, aC, hx, hy] <;> unfold In64 <;> simp
  nm a h := by
    simp only [List.mem_cons, List.not_mem_nil, or_false] at h
    rcases h with rfl | rfl | rfl <;> simp [aA, aB, aC]
  len := by simp
  rise := by
    unfold Rise
    simp only [List.pairwise_cons, List.mem_cons, List.not_mem_nil, or_false]
    refine ⟨fun b hb => ?_, fun b hb => ?_, ?_⟩
    · rcases hb with rfl | rfl <;> rfl
    · rw [hb]; rfl
    · simp
theorem inv0 : Inv [] where
  ok a h := by cases h
  nm a h := by cases h
  len := by simp
  rise := List.Pairwise.nil
theorem inv1 : Inv [aA 0] := by have := inv_open inv0 [97] 0 (by unfold In64; omega); rwa [bo1.2] at this
theorem inv2 : Inv [aA 0, aB 0] := by have := inv_open inv1 [98] 5 (by unfold In64; omega); rwa [bo2.2] at this
theorem kpB : Kp abcS [] where
  inv := invB 30 10 (by unfold In64; omega) (by unfold In64; omega)
  acc nm := by
    unfold abcS getA abc
    simp only [List.find?_isSome, List.mem_cons, List.not_mem_nil, or_false, aA, aB, aC, beq_iff_eq]
    constructor
    · rintro ⟨x, rfl | rfl | rfl, rfl⟩ <;> simp
    · rintro (rfl | rfl | rfl)
      · exact ⟨_, .inl rfl, rfl⟩
      · exact ⟨_, .inr (.inl rfl), rfl⟩
      · exact ⟨_, .inr (.inr rfl), rfl⟩
  snd nm a h := by
    have := (getA_some h).1
    simp only [abcS, List.mem_cons, List.not_mem_nil, or_false] at this
    rcases this with rfl | rfl | rfl <;> simp [aA, aB, aC]
  set nm a h := by
    have := (getA_some h).1
    simp only [abcS, List.mem_cons, List.not_mem_nil, or_false] at this
    rcases this with rfl | rfl | rfl <;> rfl
/-- the beginning -/
def Begun (w : World) (e : Ending) (w' : World) : Prop := ∃ p m q, e = .returned (.tuple #[.pointer (some ⟨p, 0, none⟩), .pointer (some ⟨q, 0, none⟩)]) ∧ ChS w' p m abcS ∧ RfS w' q abcS ∧ Fr No w w' ∧ w.heap.size ≤ p ∧ w.heap.size ≤ m ∧ w.heap.size ≤ q
set_option maxRecDepth 100000 in
set_option maxHeartbeats 8000000 in
theorem begin_any (w : World) : Calls Tryz.prog 5 #[] w (Begun w) := by
  have HO1 : Hid (∀ p m W, ChS W p m [] → Calls Tryz.prog 20 #[.pointer (some ⟨p, 0, none⟩), .string ⟨#[97]⟩, .int .i64 0] W fun e w' => e = .returned (.int .i64 0) ∧ ChS w' p m [aA 0] ∧ Fr (At1 m) W w') := fun p m W hW => by
    have h := open_any p m [] ⟨#[97]⟩ 0 W hW (by decide) (by unfold In64; omega) (by decide)
    rw [show (⟨#[97]⟩ : ByteArray).data.toList = [97] from rfl, bo1.1, bo1.2] at h
    exact h
  have HO2 : Hid (∀ p m W, ChS W p m [aA 0] → Calls Tryz.prog 20 #[.pointer (some ⟨p, 0, none⟩), .string ⟨#[98]⟩, .int .i64 5] W fun e w' => e = .returned (.int .i64 0) ∧ ChS w' p m [aA 0, aB 0] ∧ Fr (At1 m) W w') := fun p m W hW => by
    have h := open_any p m [aA 0] ⟨#[98]⟩ 5 W hW (by decide) (by unfold In64; omega) (by decide)
    rw [show (⟨#[98]⟩ : ByteArray).data.toList = [98] from rfl, bo2.1, bo2.2] at h
    exact h
  have HO3 : Hid (∀ p m W, ChS W p m [aA 0, aB 0] → Calls Tryz.prog 20 #[.pointer (some ⟨p, 0, none⟩), .string ⟨#[99]⟩, .int .i64 10] W fun e w' => e = .returned (.int .i64 0) ∧ ChS w' p m [aA 0, aB 0, aC] ∧ Fr (At1 m) W w') := fun p m W hW => by
    have h := open_any p m [aA 0, aB 0] ⟨#[99]⟩ 10 W hW (by decide) (by unfold In64; omega) (by decide)
    rw [show (⟨#[99]⟩ : ByteArray).data.toList = [99] from rfl, bo3.1, bo3.2] at h
    exact h
  have HR1 : Hid (∀ q W, RfS W q [] → Calls Tryz.prog 21 #[.pointer (some ⟨q, 0, none⟩), .string ⟨#[97]⟩, .int .i64 0] W (DeedsR q 0 [aA 0] W)) := fun q W hW => by
    have h := refopen_any q [] ⟨#[97]⟩ 0 W hW inv0 (by decide) (by unfold In64; omega)
    rw [show (⟨#[97]⟩ : ByteArray).data.toList = [97] from rfl, bo1.1, bo1.2] at h
    exact h
  have HR2 : Hid (∀ q W, RfS W q [aA 0] → Calls Tryz.prog 21 #[.pointer (some ⟨q, 0, none⟩), .string ⟨#[98]⟩, .int .i64 5] W (DeedsR q 0 [aA 0, aB 0] W)) := fun q W hW => by
    have h := refopen_any q [aA 0] ⟨#[98]⟩ 5 W hW inv1 (by decide) (by unfold In64; omega)
    rw [show (⟨#[98]⟩ : ByteArray).data.toList = [98] from rfl, bo2.1, bo2.2] at h
    exact h
  have HR3 : Hid (∀ q W, RfS W q [aA 0, aB 0] → Calls Tryz.prog 21 #[.pointer (some ⟨q, 0, none⟩), .string ⟨#[99]⟩, .int .i64 10] W (DeedsR q 0 [aA 0, aB 0, aC] W)) := fun q W hW => by
    have h := refopen_any q [aA 0, aB 0] ⟨#[99]⟩ 10 W hW inv2 (by decide) (by unfold In64; omega)
    rw [show (⟨#[99]⟩ : ByteArray).data.toList = [99] from rfl, bo3.1, bo3.2] at h
    exact h
  have HG1 : Hid (∀ p m W, ChS W p m [aA 0, aB 0, aC] → Calls Tryz.prog 22 #[.pointer (some ⟨p, 0, none⟩), .string ⟨#[97]⟩, .int .i64 (-30)] W fun e w' => e = .returned (.int .i64 0) ∧ ChS w' p m [aA 30, aB 0, aC] ∧ Fr (At1 m) W w') := fun p m W hW => by
    have h := give_any p m [aA 0, aB 0, aC] ⟨#[97]⟩ (-30) W hW (by decide) (by decide) (invB 0 0 (by unfold In64; omega) (by unfold In64; omega)).ok (by unfold In64; omega)
    rw [show (⟨#[97]⟩ : ByteArray).data.toList = [97] from rfl, bg1.1, bg1.2] at h
    exact h
  have HG2 : Hid (∀ p m W, ChS W p m [aA 30, aB 0, aC] → Calls Tryz.prog 22 #[.pointer (some ⟨p, 0, none⟩), .string ⟨#[98]⟩, .int .i64 (-10)] W fun e w' => e = .returned (.int .i64 0) ∧ ChS w' p m [aA 30, aB 10, aC] ∧ Fr (At1 m) W w') := fun p m W hW => by
    have h := give_any p m [aA 30, aB 0, aC] ⟨#[98]⟩ (-10) W hW (by decide) (by decide) (invB 30 0 (by unfold In64; omega) (by unfold In64; omega)).ok (by unfold In64; omega)
    rw [show (⟨#[98]⟩ : ByteArray).data.toList = [98] from rfl, bg2.1, bg2.2] at h
    exact h
  have HQ1 : Hid (∀ q W, RfS W q [aA 0, aB 0, aC] → Calls Tryz.prog 23 #[.pointer (some ⟨q, 0, none⟩), .string ⟨#[97]⟩, .int .i64 (-30)] W (DeedsR q 0 [aA 30, aB 0, aC] W)) := fun q W hW => by
    have h := refgive_any q [aA 0, aB 0, aC] ⟨#[97]⟩ (-30) W hW (invB 0 0 (by unfold In64; omega) (by unfold In64; omega)) (by unfold In64; omega)
    rw [show (⟨#[97]⟩ : ByteArray).data.toList = [97] from rfl, bg1.1, bg1.2] at h
    exact h
  have HQ2 : Hid (∀ q W, RfS W q [aA 30, aB 0, aC] → Calls Tryz.prog 23 #[.pointer (some ⟨q, 0, none⟩), .string ⟨#[98]⟩, .int .i64 (-10)] W (DeedsR q 0 [aA 30, aB 10, aC] W)) := fun q W hW => by
    have h := refgive_any q [aA 30, aB 0, aC] ⟨#[98]⟩ (-10) W hW (invB 30 0 (by unfold In64; omega) (by unfold In64; omega)) (by unfold In64; omega)
    rw [show (⟨#[98]⟩ : ByteArray).data.toList = [98] from rfl, bg2.1, bg2.2] at h
    exact h
  have HNEW := Lib.hid (new_any w)
  go_enter Tryz.func5, Tryz.ntmps5
  go_wp2_with (first | (go_at_call 19; refine HNEW.out.mono ?_; rintro e w1 ⟨p, m, rfl, hc1, hf1, hp1, hm1⟩))
  have hq0 : RfS ((w1.alloc (.cells #[.slice none 0 0] 49)).alloc (.cells #[.string ⟨#[97]⟩, .string ⟨#[98]⟩, .string ⟨#[99]⟩] 9)) w1.heap.size [] :=
    ⟨none, 0, (Blk.new w1 49 #[.slice none 0 0]).fr ((Fr.refl No _).alloc _) (fun h => h), Nat.le_refl _, Nat.zero_le _, Own.nil _ _ _⟩
  have hn0 : Blk ((w1.alloc (.cells #[.slice none 0 0] 49)).alloc (.cells #[.string ⟨#[97]⟩, .string ⟨#[98]⟩, .string ⟨#[99]⟩] 9)) (w1.heap.size + 1) 9 #[.string ⟨#[97]⟩, .string ⟨#[98]⟩, .string ⟨#[99]⟩] := by
    have h := Blk.new (w1.alloc (.cells #[.slice none 0 0] 49)) 9 #[.string ⟨#[97]⟩, .string ⟨#[98]⟩, .string ⟨#[99]⟩]
    rw [World.size_alloc] at h
    exact h
  have hf0 : Fr No w ((w1.alloc (.cells #[.slice none 0 0] 49)).alloc (.cells #[.string ⟨#[97]⟩, .string ⟨#[98]⟩, .string ⟨#[99]⟩] 9)) := (hf1.alloc _).alloc _
  have hc0 := hc1.no (((Fr.refl No w1).alloc (.cells #[.slice none 0 0] 49)).alloc (.cells #[.string ⟨#[97]⟩, .string ⟨#[98]⟩, .string ⟨#[99]⟩] 9))
  have hpq : p < w1.heap.size := hc1.1.lt
  have hmq : m < w1.heap.size := hc1.2.lt
  have hq1 : w.heap.size ≤ w1.heap.size := hf1.size
  generalize ((w1.alloc (.cells #[.slice none 0 0] 49)).alloc (.cells #[.string ⟨#[97]⟩, .string ⟨#[98]⟩, .string ⟨#[99]⟩] 9)) = w2 at *
  have HRK : Hid (∀ W W' T, ChS W p m T → ∀ {T'}, RfS W w1.heap.size T' → Fr (At1 m) W W' → RfS W' w1.heap.size T') := fun W W' T h1 T' h2 h3 => h2.fr h3 (fun e => by have : w1.heap.size = m := e; omega) (fun k hk cur hb => h1.2.ne_ hb (show m = k from hk.symm))
  have HNK : Hid (∀ W W', ∀ {T}, ChS W p m T → Blk W (w1.heap.size + 1) 9 #[.string ⟨#[97]⟩, .string ⟨#[98]⟩, .string ⟨#[99]⟩] → Fr (At1 m) W W' → Blk W' (w1.heap.size + 1) 9 #[.string ⟨#[97]⟩, .string ⟨#[98]⟩, .string ⟨#[99]⟩]) := fun W W' T h1 h2 h3 => h2.fr h3 (fun e => by have : w1.heap.size + 1 = m := e; omega)
  have HFR : Hid (∀ W W', Fr No w W → Fr (At1 m) W W' → Fr No w W') := fun W W' h1 h2 => h1.trans' h2 (fun i hi hlt => by have : i = m := hi; omega)
  have HCQ : Hid (∀ W W' T, ChS W p m T → Fr (At1 w1.heap.size) W W' → ChS W' p m T) := fun W W' T h1 h2 => h1.fr h2 (fun e => by have : p = w1.heap.size := e; omega) (fun e => by have : m = w1.heap.size := e; omega)
  have HNQ : Hid (∀ W W', Blk W (w1.heap.size + 1) 9 #[.string ⟨#[97]⟩, .string ⟨#[98]⟩, .string ⟨#[99]⟩] → Fr (At1 w1.heap.size) W W' → Blk W' (w1.heap.size + 1) 9 #[.string ⟨#[97]⟩, .string ⟨#[98]⟩, .string ⟨#[99]⟩]) := fun W W' h2 h3 => h2.fr h3 (fun e => by have : w1.heap.size + 1 = w1.heap.size := e; omega)
  have HFQ : Hid (∀ W W', Fr No w W → Fr (At1 w1.heap.size) W W' → Fr No w W') := fun W W' h1 h2 => h1.trans' h2 (fun i hi hlt => by have : i = w1.heap.size := hi; omega)
  have HNC : Hid (∀ W, Blk W (w1.heap.size + 1) 9 #[.string ⟨#[97]⟩, .string ⟨#[98]⟩, .string ⟨#[99]⟩] → W.cell? ⟨w1.heap.size + 1, 0, none⟩ = some (.string ⟨#[97]⟩) ∧ W.cell? ⟨w1.heap.size + 1, 1, none⟩ = some (.string ⟨#[98]⟩) ∧ W.cell? ⟨w1.heap.size + 1, 2, none⟩ = some (.string ⟨#[99]⟩)) := fun W h => ⟨h.cell 0, h.cell 1, h.cell 2⟩
  have HC0 := Lib.hid hc0
  have HQ0 := Lib.hid hq0
  have HN0 := Lib.hid hn0
  have HF0 := Lib.hid hf0
  have HEND : Hid (w.heap.size ≤ p ∧ w.heap.size ≤ m ∧ w.heap.size ≤ w1.heap.size) := ⟨hp1, hm1, hq1⟩
  have HQB := HQ1
  have HQC := HQ2
  obtain ⟨n0, n1, n2⟩ := HNC.out _ HN0.out
  clear hc0 hq0 hn0 hf0 hc1 hf1 hpq hmq hq1 hp1 hm1 HNEW HQ1 HQ2
  generalize w1.heap.size = q at *
  refine wp_loop_rounds 4 ?_
  rw [rounds_succ]
  go_wp2_with fail
  refine (HO1.out _ _ _ HC0.out).mono ?_
  rintro e u1 ⟨rfl, hc, hf⟩
  have HC0' := Lib.hid hc
  have HQ0' := Lib.hid (HRK.out _ _ _ HC0.out HQ0.out hf)
  have HN0' := Lib.hid (HNK.out _ _ HC0.out HN0.out hf)
  have HF0' := Lib.hid (HFR.out _ _ HF0.out hf)
  obtain ⟨n0, n1, n2⟩ := HNC.out _ HN0'.out
  clear hc hf HC0 HQ0 HN0 HF0
  go_wp2_with fail
  refine (HR1.out _ _ HQ0'.out).mono ?_
  rintro e v1 ⟨rfl, hq, hf⟩
  have HQ1 := Lib.hid hq
  have HC1 := Lib.hid (HCQ.out _ _ _ HC0'.out hf)
  have HN1 := Lib.hid (HNQ.out _ _ HN0'.out hf)
  have HF1 := Lib.hid (HFQ.out _ _ HF0'.out hf)
  clear hq hf HC0' HQ0' HN0' HF0' n0 n1 n2
  obtain ⟨n0, n1, n2⟩ := HNC.out _ HN1.out
  go_wp2
  rw [rounds_succ]
  go_wp2_with fail
  refine (HO2.out _ _ _ HC1.out).mono ?_
  rintro e u2 ⟨rfl, hc, hf⟩
  have HC1' := Lib.hid hc
  have HQ1' := Lib.hid (HRK.out _ _ _ HC1.out HQ1.out hf)
  have HN1' := Lib.hid (HNK.out _ _ HC1.out HN1.out hf)
  have HF1' := Lib.hid (HFR.out _ _ HF1.out hf)
  obtain ⟨n0, n1, n2⟩ := HNC.out _ HN1'.out
  clear hc hf HC1 HQ1 HN1 HF1
  go_wp2_with fail
  refine (HR2.out _ _ HQ1'.out).mono ?_
  rintro e v2 ⟨rfl, hq, hf⟩
  have HQ2 := Lib.hid hq
  have HC2 := Lib.hid (HCQ.out _ _ _ HC1'.out hf)
  have HN2 := Lib.hid (HNQ.out _ _ HN1'.out hf)
  have HF2 := Lib.hid (HFQ.out _ _ HF1'.out hf)
  clear hq hf HC1' HQ1' HN1' HF1' n0 n1 n2
  obtain ⟨n0, n1, n2⟩ := HNC.out _ HN2.out
  go_wp2
  rw [rounds_succ]
  go_wp2_with fail
  refine (HO3.out _ _ _ HC2.out).mono ?_
  rintro e u3 ⟨rfl, hc, hf⟩
  have HC2' := Lib.hid hc
  have HQ2' := Lib.hid (HRK.out _ _ _ HC2.out HQ2.out hf)
  have HN2' := Lib.hid (HNK.out _ _ HC2.out HN2.out hf)
  have HF2' := Lib.hid (HFR.out _ _ HF2.out hf)
  obtain ⟨n0, n1, n2⟩ := HNC.out _ HN2'.out
  clear hc hf HC2 HQ2 HN2 HF2
  go_wp2_with fail
  refine (HR3.out _ _ HQ2'.out).mono ?_
  rintro e v3 ⟨rfl, hq, hf⟩
  have HQ3 := Lib.hid hq
  have HC3 := Lib.hid (HCQ.out _ _ _ HC2'.out hf)
  have HN3 := Lib.hid (HNQ.out _ _ HN2'.out hf)
  have HF3 := Lib.hid (HFQ.out _ _ HF2'.out hf)
  clear hq hf HC2' HQ2' HN2' HF2' n0 n1 n2
  obtain ⟨n0, n1, n2⟩ := HNC.out _ HN3.out
  go_wp2
  rw [rounds_succ]
  go_wp2_with fail
  refine (HG1.out _ _ _ HC3.out).mono ?_
  rintro e u4 ⟨rfl, hc, hf⟩
  have HC3' := Lib.hid hc
  have HQ3' := Lib.hid (HRK.out _ _ _ HC3.out HQ3.out hf)
  have HF3' := Lib.hid (HFR.out _ _ HF3.out hf)
  clear hc hf HC3 HQ3 HF3
  go_wp2_with fail
  refine (HQB.out _ _ HQ3'.out).mono ?_
  rintro e v4 ⟨rfl, hq, hf⟩
  have HQ4 := Lib.hid hq
  have HC4 := Lib.hid (HCQ.out _ _ _ HC3'.out hf)
  have HF4 := Lib.hid (HFQ.out _ _ HF3'.out hf)
  clear hq hf HC3' HQ3' HF3'
  go_wp2_with fail
  refine (HG2.out _ _ _ HC4.out).mono ?_
  rintro e u5 ⟨rfl, hc, hf⟩
  have HC4' := Lib.hid hc
  have HQ4' := Lib.hid (HRK.out _ _ _ HC4.out HQ4.out hf)
  have HF4' := Lib.hid (HFR.out _ _ HF4.out hf)
  clear hc hf HC4 HQ4 HF4
  go_wp2_with fail
  refine (HQC.out _ _ HQ4'.out).mono ?_
  rintro e v5 ⟨rfl, hq, hf⟩
  have HQ5 := Lib.hid hq
  have HC5 := Lib.hid (HCQ.out _ _ _ HC4'.out hf)
  have HF5 := Lib.hid (HFQ.out _ _ HF4'.out hf)
  clear hq hf HC4' HQ4' HF4'
  go_wp2
  go_ret2
  exact ⟨p, m, q, rfl, HC5.out, HQ5.out, HF5.out, HEND.out⟩
end Go.Proofs.YtcjdkifojkjjeaaGreat

namespace Go.Proofs.YtcjdkifojkjjeaaGreat
open Go.RowKit Go.My Go.Maps
set_option linter.unusedSimpArgs false
set_option linter.unusedVariables false

/-- a step -/
structure OpH where
  kind : Int
  num : Int
  acct : ByteArray
  peer : ByteArray
  sum : Int
def OpH.ok (o : OpH) : Prop := In64 o.kind ∧ In64 o.num ∧ o.acct.size ≤ maxLen ∧ o.peer.size ≤ maxLen ∧ In64 o.sum
def OpH.nm (o : OpH) : List UInt8 := o.acct.data.toList
def OpH.val (o : OpH) : Value := .agg #[.int .i64 o.kind, .int .i64 o.num, .string o.acct, .string o.peer, .int .i64 o.sum]
def RdOH (cs : List Value) (o : OpH) : Prop := cs = [.int .i64 o.kind, .int .i64 o.num, .string o.acct, .string o.peer, .int .i64 o.sum] ∧ o.ok
def kindH (k : Int) : Int := (k % 18446744073709551616) % 4
theorem kindH_bd (k : Int) : kindH k = 0 ∨ kindH k = 1 ∨ kindH k = 2 ∨ kindH k = 3 := by unfold kindH; omega
def doesHE (S : List Ac) (H : List Hd) (o : OpH) : Int :=
  if kindH o.kind = 0 then putE S H o.num o.nm o.sum else if kindH o.kind = 1 then takeE S H o.acct o.num o.peer o.sum else if kindH o.kind = 2 then freeE S H o.nm o.num else actE (fun a => giveE a o.sum) S o.nm
def doesHS (S : List Ac) (H : List Hd) (o : OpH) : List Ac :=
  if kindH o.kind = 0 then putSS S H o.num o.nm o.sum else if kindH o.kind = 1 then takeSS S H o.acct o.num o.peer o.sum else if kindH o.kind = 2 then freeSS S H o.nm o.num else actS (fun a => giveE a o.sum) (fun a => giveA a o.sum) S o.nm
def doesHH (S : List Ac) (H : List Hd) (o : OpH) : List Hd :=
  if kindH o.kind = 0 then putHH S H o.num o.nm o.sum else if kindH o.kind = 1 then takeHH S H o.acct o.num o.peer o.sum else if kindH o.kind = 2 then freeHH S H o.nm o.num else H

structure St (S : List Ac) (H : List Hd) : Prop where
  kp : Kp S H
  pos : PosH H
  rise : RiseH H
  few : ∀ nm, (ofH H nm).length ≤ 8
theorem asd_some {S : List Ac} {nm : List UInt8} {x : Int} (h : asdE S nm x = 0) : (getA S nm).isSome = true := by
  unfold asdE actE at h
  cases hg : getA S nm with
  | none => rw [hg] at h; cases h
  | some a => rfl
theorem abc_len {nm : List UInt8} (h : nm ∈ abc) : nm.length ≤ 8 := by
  simp only [abc, List.mem_cons, List.not_mem_nil, or_false] at h
  rcases h with rfl | rfl | rfl <;> simp
theorem put_zero {S : List Ac} {H : List Hd} {n x : Int} {a : List UInt8} (h : putE S H n a x = 0) : 1 ≤ n ∧ n ≤ 9999 ∧ 0 < x ∧ getH H a n = none ∧ (ofH H a).length < 8 ∧ asdE S a x = 0 := by
  unfold putE at h
  split at h
  · cases h
  · rename_i h1
    split at h
    · cases h
    · rename_i h2
      split at h
      · cases h
      · exact ⟨by omega, by omega, by omega, by simpa using h2, by omega, h⟩
theorem St.del {S S' : List Ac} {H : List Hd} {a : List UInt8} {n : Int} (h : St S H) (hk : Kp S' (delH H a n)) : St S' (delH H a n) :=
  ⟨hk, fun y hy => h.pos y (List.mem_filter.1 hy).1, rise_filter h.rise _, fun nm => Nat.le_trans (of_len_del H _ _ nm) (h.few nm)⟩
theorem St.put {S : List Ac} {H : List Hd} (h : St S H) (n x : Int) (a : List UInt8) (hx : x ≤ 9223372036854775807) : St (putSS S H n a x) (putHH S H n a x) := by
  by_cases h0 : putE S H n a x = 0
  · obtain ⟨h1, h2, h3, h4, h5, h6⟩ := put_zero h0
    unfold putSS putHH
    rw [if_pos h0, if_pos h0]
    refine ⟨h.kp.aside h6 (fun k => held_ins ⟨n, a, x⟩ H k), fun y hy => ?_, rise_insH _ _ h.rise h4, fun nm => ?_⟩
    · rcases (mem_insH _ _ _).1 hy with rfl | hy
      · exact ⟨h1, h2, h3, hx, abc_len ((h.kp.acc a).1 (asd_some h6))⟩
      · exact h.pos y hy
    · have := of_len_ins ⟨n, a, x⟩ H nm
      simp only at this
      by_cases e : nm = a
      · subst e
        rw [if_pos rfl] at this
        omega
      · rw [if_neg e] at this
        have := h.few nm
        omega
  · unfold putSS putHH
    rw [if_neg h0, if_neg h0]
    exact h
theorem St.free {S : List Ac} {H : List Hd} (h : St S H) (a : List UInt8) (n : Int) : St (freeSS S H a n) (freeHH S H a n) ∧ (freeE S H a n ≠ 0 → freeSS S H a n = S) := by
  unfold freeHH freeSS freeE
  cases hg : getH H a n with
  | none => exact ⟨h, fun _ => rfl⟩
  | some y =>
    simp only
    by_cases h0 : asdE S a (-y.sum) = 0
    · rw [if_pos h0]
      exact ⟨h.del (h.kp.aside h0 (fun k => held_del h.rise hg k)), fun e => absurd h0 e⟩
    · rw [if_neg h0]
      have e : asdS S a (-y.sum) = S := act_err h0
      rw [e]
      exact ⟨h, fun _ => rfl⟩
theorem St.take {S : List Ac} {H : List Hd} (h : St S H) (a b : ByteArray) (n x : Int) : St (takeSS S H a n b x) (takeHH S H a n b x) := by
  by_cases h0 : takeE S H a n b x = 0
  · unfold takeSS takeHH
    rw [if_pos h0, if_pos h0]
    unfold takeE at h0
    cases hg : getH H a.data.toList n with
    | none => rw [hg] at h0; cases h0
    | some y =>
      rw [hg] at h0
      simp only at h0
      split at h0
      · cases h0
      · split at h0
        · rename_i h1
          exact h.del ((h.kp.aside h1 (fun k => held_del h.rise hg k)).make _)
        · rename_i h1
          exact absurd h0 h1
  · unfold takeSS takeHH
    rw [if_neg h0, if_neg h0]
    exact h
theorem len_del_le (H : List Hd) (a : List UInt8) (n : Int) : (delH H a n).length ≤ H.length := List.length_filter_le _ _
theorem St.does {S : List Ac} {H : List Hd} (h : St S H) (o : OpH) (ho : o.ok) : St (doesHS S H o) (doesHH S H o) ∧ (doesHE S H o ≠ 0 → doesHS S H o = S ∧ doesHH S H o = H) ∧ (doesHH S H o).length ≤ H.length + 1 := by
  unfold doesHS doesHH doesHE
  rcases kindH_bd o.kind with hk | hk | hk | hk <;> rw [hk]
  · simp only [if_true]
    refine ⟨h.put _ _ _ (by have := ho.2.2.2.2; unfold In64 at this; omega), fun hne => ?_, ?_⟩
    · unfold putSS putHH
      rw [if_neg hne, if_neg hne]
      exact ⟨rfl, rfl⟩
    · unfold putHH
      split
      · rw [len_insH]; omega
      · omega
  · simp only [show ¬ ((1 : Int) = 0) by decide, if_false, if_true]
    refine ⟨h.take _ _ _ _, fun hne => ?_, ?_⟩
    · unfold takeSS takeHH
      rw [if_neg hne, if_neg hne]
      exact ⟨rfl, rfl⟩
    · unfold takeHH
      split
      · have := len_del_le H o.acct.data.toList o.num; omega
      · omega
  · simp only [show ¬ ((2 : Int) = 0) by decide, show ¬ ((2 : Int) = 1) by decide, if_false, if_true]
    refine ⟨(h.free _ _).1, fun hne => ⟨(h.free _ _).2 hne, ?_⟩, ?_⟩
    · unfold freeHH
      rw [if_neg hne]
    · unfold freeHH
      split
      · have := len_del_le H o.nm o.num; omega
      · omega
  · simp only [show ¬ ((3 : Int) = 0) by decide, show ¬ ((3 : Int) = 1) by decide, show ¬ ((3 : Int) = 2) by decide, if_false]
    exact ⟨⟨h.kp.give _ _, h.pos, h.rise, h.few⟩, fun hne => ⟨act_err hne, trivial⟩, by omega⟩
theorem stB : St abcS [] := ⟨kpB, (fun h hh => by cases hh), List.Pairwise.nil, (fun nm => by simp [ofH])⟩

theorem kindH_any (o : OpH) (w : World) : Calls Tryz.prog 24 #[.agg #[.int .i64 o.kind, .int .i64 o.num, .string o.acct, .string o.peer, .int .i64 o.sum]] w fun e w' => e = .returned (.int .i64 (kindH o.kind)) ∧ Fr No w w' := by
  obtain ⟨k, n, s, t, x⟩ := o
  simp only
  have hk : Hid (wrap64 ((IntKind.u64.wrap k).tmod 4) = kindH k) := by
    show _ = _
    rw [IntKind.wrap_u64]
    unfold kindH
    have e2 : (k % 18446744073709551616).tmod 4 = (k % 18446744073709551616) % 4 := by
      rw [Int.tmod_eq_emod_of_nonneg (by omega)]
    rw [e2]
    exact IntWalk.wrap64_in _ ⟨by omega, by omega⟩
  go_enter Tryz.func24, Tryz.ntmps24
  go_wp2
  go_ret
  exact ⟨by rw [← hk.out]; rfl, (Fr.refl _ _).alloc _⟩

set_option maxRecDepth 100000 in
set_option maxHeartbeats 2000000 in
/-- a step, whatever it is done to -/
theorem doesH_gen (h c : Value) (o : OpH) (w : World) (n : Int) (Q : World → Prop)
    (h0 : kindH o.kind = 0 → ∀ W, Fr No w W → Calls Tryz.prog 16 #[h, c, .agg #[.int .i64 o.num, .string o.acct, .int .i64 o.sum]] W fun e w' => e = .returned (.int .i64 n) ∧ Q w')
    (h1 : kindH o.kind = 1 → ∀ W, Fr No w W → Calls Tryz.prog 17 #[h, c, .string o.acct, .int .i64 o.num, .string o.peer, .int .i64 o.sum] W fun e w' => e = .returned (.int .i64 n) ∧ Q w')
    (h2 : kindH o.kind = 2 → ∀ W, Fr No w W → Calls Tryz.prog 25 #[h, c, .string o.acct, .int .i64 o.num] W fun e w' => e = .returned (.int .i64 n) ∧ Q w')
    (h3 : kindH o.kind = 3 → ∀ W, Fr No w W → Calls Tryz.prog 22 #[c, .string o.acct, .int .i64 o.sum] W fun e w' => e = .returned (.int .i64 n) ∧ Q w') :
    Calls Tryz.prog 8 #[h, c, o.val] w fun e w' => e = .returned (.int .i64 n) ∧ Q w' := by
  have HK := Lib.hid fun W => kindH_any o W
  obtain ⟨k, nn, s, t, x⟩ := o
  have H0 := Lib.hid h0
  have H1 := Lib.hid h1
  have H2 := Lib.hid h2
  have H3 := Lib.hid h3
  have hbd := kindH_bd k
  unfold OpH.val
  simp only at *
  clear h0 h1 h2 h3
  have hbx := Blk.new w 38 #[.int .i64 k, .int .i64 nn, .string s, .string t, .int .i64 x]
  have hfx : Fr No w (w.alloc (.cells #[.int .i64 k, .int .i64 nn, .string s, .string t, .int .i64 x] 38)) := (Fr.refl _ _).alloc _
  go_enter Tryz.func8, Tryz.ntmps8
  go_wp2_with fail
  refine (HK.out _).mono ?_
  rintro e w2 ⟨rfl, hf2⟩
  have hbx2 := hbx.fr hf2 (fun h => h)
  have HF := Lib.hid (hfx.trans hf2)
  have c0 := hbx2.cell 0
  have c1 := hbx2.cell 1
  have c2 := hbx2.cell 2
  have c3 := hbx2.cell 3
  have c4 := hbx2.cell 4
  simp only [List.getElem?_toArray, List.getElem?_cons_zero, List.getElem?_cons_succ] at c0 c1 c2 c3 c4
  clear hbx hfx hf2 hbx2
  rcases hbd with hk | hk | hk | hk
  · have HH := Lib.hid (H0.out hk _ HF.out)
    rw [hk]
    clear hk H0 H1 H2 H3 HF
    go_wp2_with (go_at_call 16; refine HH.out.mono ?_; rintro e w3 ⟨rfl, hq⟩)
    go_ret
    exact ⟨rfl, hq⟩
  · have HH := Lib.hid (H1.out hk _ HF.out)
    rw [hk]
    clear hk H0 H1 H2 H3 HF
    go_wp2_with (go_at_call 17; refine HH.out.mono ?_; rintro e w3 ⟨rfl, hq⟩)
    go_ret
    exact ⟨rfl, hq⟩
  · have HH := Lib.hid (H2.out hk _ HF.out)
    rw [hk]
    clear hk H0 H1 H2 H3 HF
    go_wp2_with (go_at_call 25; refine HH.out.mono ?_; rintro e w3 ⟨rfl, hq⟩)
    go_ret
    exact ⟨rfl, hq⟩
  · have HH := Lib.hid (H3.out hk _ HF.out)
    rw [hk]
    clear hk H0 H1 H2 H3 HF
    go_wp2_with (go_at_call 22; refine HH.out.mono ?_; rintro e w3 ⟨rfl, hq⟩)
    go_ret
    exact ⟨rfl, hq⟩
end Go.Proofs.YtcjdkifojkjjeaaGreat
