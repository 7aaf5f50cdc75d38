/- What holds of a chart's accounts. What the laws on charts share: Same, early, scripts. The document's own Name. Contracts of the document's own answers for coins: numbers of two halves. Contracts of the document's own answers for coins: Total, Times, Share. The document's own chart, a list in order: its state in memory, and the mathematics of it. The document's own chart: Ahead, At, Free. What all accounts have together: of the chart, and of the document's own. Holds as a list in order: of no program. Holds in memory: the map of them, its key. Holds in memory: look, put, delete; New. -/
import Derived.Test.YtcpgamidimfflaaGreatQ07
import Derived.Deep.QuietTactic
import Derived.BigQuiet
import Derived.Test.YtcpgamidimfflaaGreatQ06
import Derived.Sort.Walk0
import Derived.Deep.DeepCutAuto
import Derived.Deep.DrawnRows
import Derived.Handy
import Derived.Maps.RangeWalk
import Derived.StringKeys
import Derived.DeepKeys4
namespace Go.Proofs.YtcpgamidimfflaaGreat
open Go.RowKit Go.My Go.Maps
set_option linter.unusedSimpArgs false
set_option linter.unusedVariables false
structure Inv (S : List Ac) : Prop where
  ok : OkS S
  nm : NmS S
  len : S.length ≤ 12
  rise : Rise S
theorem mem_putA {a b : Ac} {S : List Ac} (h : b ∈ putA a S) : b = a ∨ b ∈ S := by
  unfold putA at h
  rcases (mem_insA a b _).1 h with h | h
  · exact .inl h
  · exact .inr (List.mem_filter.1 h).1
theorem Inv.put {S : List Ac} (h : Inv S) (a : Ac) (ho : OkA a) (hn : a.name.length ≤ 8) (hl : (getA S a.name).isSome ∨ S.length < 12) : Inv (putA a S) :=
  ⟨fun b hb => by
    rcases mem_putA hb with rfl | hb
    · exact ho
    · exact h.ok b hb, fun b hb => by
    rcases mem_putA hb with rfl | hb
    · exact hn
    · exact h.nm b hb, by
    rw [length_put a S h.rise]
    have := h.len
    split
    · exact this
    · rename_i hne
      rcases hl with hl | hl
      · exact absurd hl hne
      · omega, rise_put a S h.rise⟩
theorem Inv.nil : Inv [] := ⟨fun _ h => (nomatch h), fun _ h => (nomatch h), Nat.zero_le _, List.Pairwise.nil⟩
theorem inv_open {S : List Ac} (h : Inv S) (nm : List UInt8) (lim : Int) (hl : In64 lim) : Inv (openS S nm lim) := by
  unfold openS
  by_cases h0 : openE S nm lim = 0
  · rw [if_pos h0]
    unfold openE at h0
    split at h0
    · cases h0
    · rename_i h1
      split at h0
      · cases h0
      · split at h0
        · cases h0
        · rename_i h3
          have hlim : ¬ lim < 0 := fun h => h1 (.inr h)
          have hnb : nameB nm = true := by
            cases hb : nameB nm
            · exact absurd (.inl hb) h1
            · rfl
          unfold In64 at hl
          refine h.put ⟨nm, 0, 0, lim⟩ ⟨by unfold In64; simp, by simp only; omega, by simp only; omega⟩ ?_ (.inr (by omega))
          unfold nameB at hnb
          simp only [Bool.and_eq_true, decide_eq_true_eq] at hnb
          simp only
          omega
  · rw [if_neg h0]
    exact h
theorem inv_act {S : List Ac} (h : Inv S) (f : Ac → Int) (g : Ac → Ac) (nm : List UInt8) (hg : ∀ a, OkA a → f a = 0 → OkA (g a)) (hn : ∀ a, (g a).name = a.name) : Inv (actS f g S nm) := by
  unfold actS
  cases hq : getA S nm with
  | none => exact h
  | some a =>
    simp only
    obtain ⟨hm, hnm⟩ := getA_some hq
    by_cases h0 : f a = 0
    · rw [if_pos h0]
      refine h.put _ (hg a (h.ok a hm) h0) (by rw [hn]; exact h.nm a hm) (.inl ?_)
      rw [hn, hnm, hq]
      rfl
    · rw [if_neg h0]
      exact h
theorem ok_give (x : Int) (a : Ac) (h : OkA a) (h0 : giveE a x = 0) : OkA (giveA a x) := by
  unfold giveA
  rw [if_pos h0]
  unfold giveE at h0
  split at h0
  · rename_i hin
    exact ⟨hin, h.2⟩
  · cases h0
theorem ok_aside (x : Int) (a : Ac) (h : OkA a) (h0 : asideE a x = 0) : OkA (asideA a x) := by
  unfold asideA
  rw [if_pos h0]
  unfold asideE at h0
  split at h0
  · rename_i hin
    split at h0
    · cases h0
    · split at h0
      · cases h0
      · rename_i hneg
        unfold In64 at hin
        exact ⟨h.1, by simp only; omega, h.2.2⟩
  · cases h0
end Go.Proofs.YtcpgamidimfflaaGreat
namespace Go.Proofs.YtcpgamidimfflaaGreat
open Go.RowKit Go.My Go.Maps
set_option linter.unusedSimpArgs false
set_option linter.unusedVariables false
attribute [local go_sem ↓] Go.wp_at_zero Go.wp_at_succ
instance : DecidableEq Ac := fun a b =>
  if h : a.name = b.name ∧ a.hv = b.hv ∧ a.st = b.st ∧ a.lim = b.lim then isTrue (Ac.ext_ h.1 h.2.1 h.2.2.1 h.2.2.2) else isFalse fun e => h (by subst e; exact ⟨rfl, rfl, rfl, rfl⟩)
end Go.Proofs.YtcpgamidimfflaaGreat
namespace Go.Proofs.YtcpgamidimfflaaGreat
open Go.RowKit Go.My Go.Maps
set_option linter.unusedSimpArgs false
set_option linter.unusedVariables false
attribute [local go_sem ↓] Go.wp_at_zero Go.wp_at_succ
end Go.Proofs.YtcpgamidimfflaaGreat
namespace Go.Proofs.YtcpgamidimfflaaGreat
open Go.RowKit Go.My
set_option linter.unusedSimpArgs false
set_option linter.unusedVariables false
end Go.Proofs.YtcpgamidimfflaaGreat
namespace Go.Proofs.YtcpgamidimfflaaGreat
open Go.RowKit Go.My
set_option linter.unusedSimpArgs false
set_option linter.unusedVariables false
end Go.Proofs.YtcpgamidimfflaaGreat
namespace Go.Proofs.YtcpgamidimfflaaGreat
open Go.RowKit Go.My Go.Maps
set_option linter.unusedSimpArgs false
set_option linter.unusedVariables false
attribute [local go_sem ↓] Go.wp_at_zero Go.wp_at_succ
def RfS (w : World) (q : Nat) (S : List Ac) : Prop := ∃ A c, Blk w q 143 #[.slice A S.length c] ∧ S.length ≤ c ∧ c ≤ maxLen ∧ Own w 124 4 (.slice A S.length c) S.length (acs S)
section
variable {w w' : World} {q : Nat} {S : List Ac}
theorem RfS.lt (h : RfS w q S) : q < w.heap.size := by obtain ⟨A, c, hb, _⟩ := h; exact hb.lt
theorem RfS.fr {F : Nat → Prop} (h : RfS w q S) (hf : Fr F w w') (hq : ¬ F q) (hn : ∀ k, F k → ∀ cur, ¬ Blk w k 124 cur) : RfS w' q S := by
  obtain ⟨A, c, hb, h1, h2, ho⟩ := h
  exact ⟨A, c, hb.fr hf hq, h1, h2, ho.fr hf fun k hk hF => by
    obtain ⟨cur, hc⟩ := ho.blk k hk
    exact hn k hF cur hc⟩
theorem RfS.no (h : RfS w q S) (hf : Fr No w w') : RfS w' q S := h.fr hf (fun h => h) (fun _ h => False.elim h)
end
end Go.Proofs.YtcpgamidimfflaaGreat
namespace Go.Proofs.YtcpgamidimfflaaGreat
open Go.RowKit Go.My Go.Maps
set_option linter.unusedSimpArgs false
set_option linter.unusedVariables false
attribute [local go_sem ↓] Go.wp_at_zero Go.wp_at_succ
end Go.Proofs.YtcpgamidimfflaaGreat
namespace Go.Proofs.YtcpgamidimfflaaGreat
open Go.RowKit Go.My Go.Maps
set_option linter.unusedSimpArgs false
set_option linter.unusedVariables false
attribute [local go_sem ↓] Go.wp_at_zero Go.wp_at_succ
theorem elI : El Tryz.prog 273 2 1 8 := ⟨Tryz.underlying273, by
  have h : (Tryz.prog.info? 2).map (fun i => (i.zero, i.size, i.bytes)) = some (some (.int .i64 0), 1, 8) := by kernel_rfl
  obtain ⟨i, hi, hz, hs, hb⟩ := info_parts h
  exact ⟨i, _, hi, hz, hs, hb, rfl⟩, by omega⟩
theorem ranges_fr {F : Nat → Prop} {P : Program} {k : TypeId} {R : Value → Option (DataW Unit × List MemPlace)} {b r n : Nat} {D : DataW Unit} {left : Lit → Bool} {cnt : Nat} {w w' : World} (h : w.ranges P k R b r n D left cnt) (hf : Fr F w w') (hb : ¬ F b) (hr : ¬ F r) : w'.ranges P k R b r n D left cnt := by
  obtain ⟨es, clock, since, seen, c0, h1, h2, h3, h4, h5, h6⟩ := h
  exact ⟨es, clock, since, seen, c0, (hf.block b (Array.getElem?_eq_some_iff.1 h1).1 hb).trans h1, h2, h3, h4, (hf.block r (Array.getElem?_eq_some_iff.1 h5).1 hr).trans h5, h6⟩
theorem fr_grown {w w' : World} {r : Nat} (h : w.grownBy w' (some r)) : Fr (At1 r) w w' := ⟨h.os, h.tape, h.output, h.size, fun k hk hn => h.block k hk (fun e => hn (by injection e))⟩
theorem fr_grown0 {w w' : World} (h : w.grownBy w' none) : Fr No w w' := ⟨h.os, h.tape, h.output, h.size, fun k hk _ => h.block k hk (fun e => by cases e)⟩
theorem ranges_ne {P : Program} {k : TypeId} {R : Value → Option (DataW Unit × List MemPlace)} {b r n g : Nat} {D : DataW Unit} {left : Lit → Bool} {cnt : Nat} {w : World} {t : TypeId} {cs : Array Value} (h : w.ranges P k R b r n D left cnt) (hg : Blk w g t cs) (he : r = g) : False := by
  subst he
  obtain ⟨es, clock, since, seen, c0, h1, h2, h3, h4, h5, h6⟩ := h
  unfold Blk at hg
  rw [h5] at hg
  cases hg
theorem own_ne_range {P : Program} {k : TypeId} {R : Value → Option (DataW Unit × List MemPlace)} {b r n size n2 : Nat} {D : DataW Unit} {left : Lit → Bool} {cnt : Nat} {w : World} {t : TypeId} {v : Value} {xs : List Value} (ho : Own w t size v n2 xs) (h : w.ranges P k R b r n D left cnt) : ∀ k, v.ownBlock = some k → ¬ At1 r k := fun k hk hk2 => by
  obtain ⟨cur, hcur⟩ := ho.blk k hk
  have h2 : r = k := hk2.symm
  exact ranges_ne h hcur h2
theorem own_ne_map {P : Program} {k : TypeId} {R : Value → Option (DataW Unit × List MemPlace)} {b n size n2 : Nat} {D : DataW Unit} {w : World} {t : TypeId} {v : Value} {xs : List Value} (ho : Own w t size v n2 xs) (h : w.ownsMap P k R b n D) : ∀ k, v.ownBlock = some k → ¬ b = k := fun k hk hk2 => by
  obtain ⟨cur, hcur⟩ := ho.blk k hk
  subst hk2
  obtain ⟨es, clock, hb, _⟩ := h
  unfold Blk at hcur
  rw [hb] at hcur
  cases hcur
end Go.Proofs.YtcpgamidimfflaaGreat
namespace Go.My
open Go Go.RowKit Go.Maps
set_option linter.unusedSimpArgs false
set_option linter.unusedVariables false
structure Hd where
  num : Int
  acct : List UInt8
  sum : Int
instance : DecidableEq Hd := fun a b =>
  if h : a.num = b.num ∧ a.acct = b.acct ∧ a.sum = b.sum then isTrue (by cases a; cases b; simp_all) else isFalse fun e => h (by subst e; exact ⟨rfl, rfl, rfl⟩)
def Hd.ok (h : Hd) : Prop := h.acct.length ≤ maxLen ∧ In64 h.num ∧ In64 h.sum
def Hd.at (h : Hd) (a : List UInt8) (n : Int) : Bool := h.acct == a && h.num == n
theorem Hd.at_iff {h : Hd} {a : List UInt8} {n : Int} : h.at a n = true ↔ h.acct = a ∧ h.num = n := by simp [Hd.at]
def hB (a b : Hd) : Bool := bytesBefore a.acct b.acct || (a.acct == b.acct && decide (a.num < b.num))
theorem hB_iff {a b : Hd} : hB a b = true ↔ bytesBefore a.acct b.acct = true ∨ (a.acct = b.acct ∧ a.num < b.num) := by simp [hB]
theorem hB_irrefl {a b : Hd} (h1 : a.acct = b.acct) (h2 : a.num = b.num) : hB a b = false := by
  cases hq : hB a b with
  | false => rfl
  | true =>
    rcases hB_iff.1 hq with h | h
    · rw [h1, WideAt.bytes_irrefl] at h; cases h
    · omega
theorem hB_trans {a b c : Hd} (h1 : hB a b = true) (h2 : hB b c = true) : hB a c = true := by
  rw [hB_iff] at *
  rcases h1 with h1 | ⟨e1, h1⟩ <;> rcases h2 with h2 | ⟨e2, h2⟩
  · exact .inl (WideShapes.bytes_trans _ _ _ h1 h2)
  · exact .inl (by rw [← e2]; exact h1)
  · exact .inl (by rw [e1]; exact h2)
  · exact .inr ⟨by rw [e1, e2], by omega⟩
theorem hB_total {a b : Hd} (h : ¬ (a.acct = b.acct ∧ a.num = b.num)) : hB a b = true ∨ hB b a = true := by
  by_cases e : a.acct = b.acct
  · have hn : a.num ≠ b.num := fun hn => h ⟨e, hn⟩
    by_cases hl : a.num < b.num
    · exact .inl (hB_iff.2 (.inr ⟨e, hl⟩))
    · exact .inr (hB_iff.2 (.inr ⟨e.symm, by omega⟩))
  · rcases WideAt.bytes_total a.acct b.acct e with h | h
    · exact .inl (hB_iff.2 (.inl h))
    · exact .inr (hB_iff.2 (.inl h))
theorem hB_asymm {a b : Hd} (h : hB a b = true) : hB b a = false := by
  cases hq : hB b a with
  | false => rfl
  | true =>
    have := hB_trans h hq
    rw [hB_irrefl rfl rfl] at this
    cases this
def RiseH (H : List Hd) : Prop := H.Pairwise fun a b => hB a b = true
def getH (H : List Hd) (a : List UInt8) (n : Int) : Option Hd := H.find? fun h => h.at a n
def delH (H : List Hd) (a : List UInt8) (n : Int) : List Hd := H.filter fun h => !h.at a n
def ofH (H : List Hd) (a : List UInt8) : List Hd := H.filter fun h => h.acct == a
def insH (x : Hd) : List Hd → List Hd
  | [] => [x]
  | b :: r => if hB x b then x :: b :: r else b :: insH x r
theorem getH_some {H : List Hd} {a : List UInt8} {n : Int} {h : Hd} (e : getH H a n = some h) : h ∈ H ∧ h.acct = a ∧ h.num = n := by
  unfold getH at e
  have h1 : h.at a n = true := by have := List.find?_some e; simpa using this
  exact ⟨List.mem_of_find?_eq_some e, Hd.at_iff.1 h1⟩
theorem getH_none {H : List Hd} {a : List UInt8} {n : Int} (e : getH H a n = none) : ∀ h ∈ H, ¬ (h.acct = a ∧ h.num = n) := by
  unfold getH at e
  intro h hh hx
  exact List.find?_eq_none.1 e h hh (Hd.at_iff.2 hx)
theorem rise_one {H : List Hd} (hr : RiseH H) : ∀ {a b : Hd}, a ∈ H → b ∈ H → a.acct = b.acct → a.num = b.num → a = b := by
  intro a b ha hb h1 h2
  obtain ⟨i, hi, rfl⟩ := List.getElem_of_mem ha
  obtain ⟨j, hj, rfl⟩ := List.getElem_of_mem hb
  rcases Nat.lt_trichotomy i j with h | h | h
  · have := List.pairwise_iff_getElem.1 hr i j hi hj h
    rw [hB_irrefl h1 h2] at this; cases this
  · subst h; rfl
  · have := List.pairwise_iff_getElem.1 hr j i hj hi h
    rw [hB_irrefl h1.symm h2.symm] at this; cases this
theorem getH_mem {H : List Hd} (hr : RiseH H) {h : Hd} (hm : h ∈ H) : getH H h.acct h.num = some h := by
  cases hg : getH H h.acct h.num with
  | none => exact absurd ⟨rfl, rfl⟩ (getH_none hg h hm)
  | some b =>
    obtain ⟨hb, h1, h2⟩ := getH_some hg
    rw [rise_one hr hb hm h1 h2]
theorem mem_insH (x b : Hd) (H : List Hd) : b ∈ insH x H ↔ b = x ∨ b ∈ H := by
  induction H with
  | nil => simp [insH]
  | cons c r ih =>
    unfold insH
    split
    · simp
    · simp only [List.mem_cons, ih]
      constructor
      · rintro (h | h | h) <;> simp [h]
      · rintro (h | h | h) <;> simp [h]
theorem len_insH (x : Hd) (H : List Hd) : (insH x H).length = H.length + 1 := by
  induction H with
  | nil => rfl
  | cons c r ih => unfold insH; split <;> simp [ih]
theorem rise_insH (x : Hd) (H : List Hd) (h : RiseH H) (hn : getH H x.acct x.num = none) : RiseH (insH x H) := by
  induction H with
  | nil => simp [insH, RiseH]
  | cons c r ih =>
    obtain ⟨h1, h2⟩ := List.pairwise_cons.1 h
    have hc := getH_none hn c List.mem_cons_self
    have hnr : getH r x.acct x.num = none := by
      unfold getH at hn ⊢
      rw [List.find?_eq_none] at hn ⊢
      exact fun y hy => hn y (List.mem_cons_of_mem _ hy)
    unfold insH
    split
    · rename_i hb
      refine List.pairwise_cons.2 ⟨fun q hq => ?_, h⟩
      rcases List.mem_cons.1 hq with rfl | hq
      · exact hb
      · exact hB_trans hb (h1 q hq)
    · rename_i hb
      have hcx : hB c x = true := by
        rcases hB_total (a := c) (b := x) hc with h | h
        · exact h
        · exact absurd h hb
      refine List.pairwise_cons.2 ⟨fun q hq => ?_, ih h2 hnr⟩
      rcases (mem_insH x q r).1 hq with rfl | hq
      · exact hcx
      · exact h1 q hq
theorem rise_filter {H : List Hd} (h : RiseH H) (f : Hd → Bool) : RiseH (H.filter f) := List.Pairwise.sublist List.filter_sublist h
theorem get_ext {H : List Hd} {a : List UInt8} {n : Int} (hr : RiseH H) {o : Option Hd} (h1 : ∀ h, o = some h → h ∈ H ∧ h.acct = a ∧ h.num = n) (h2 : o = none → ∀ h ∈ H, ¬ (h.acct = a ∧ h.num = n)) : getH H a n = o := by
  cases o with
  | none =>
    cases hg : getH H a n with
    | none => rfl
    | some b => obtain ⟨hb, e⟩ := getH_some hg; exact absurd e (h2 rfl b hb)
  | some h =>
    obtain ⟨hm, rfl, rfl⟩ := h1 h rfl
    exact getH_mem hr hm
theorem getH_ins_same {H : List Hd} {x : Hd} (h : RiseH H) (hn : getH H x.acct x.num = none) : getH (insH x H) x.acct x.num = some x :=
  getH_mem (rise_insH x H h hn) ((mem_insH x x H).2 (.inl rfl))
theorem getH_ins_other {H : List Hd} {x : Hd} (h : RiseH H) (hn : getH H x.acct x.num = none) {a : List UInt8} {n : Int} (hne : ¬ (x.acct = a ∧ x.num = n)) : getH (insH x H) a n = getH H a n :=
  get_ext (rise_insH x H h hn) (fun b hb => by obtain ⟨h1, h2⟩ := getH_some hb; exact ⟨(mem_insH x b H).2 (.inr h1), h2⟩) (fun e b hb => by
    rcases (mem_insH x b H).1 hb with rfl | hb
    · exact hne
    · exact getH_none e b hb)
theorem getH_del_same (H : List Hd) (a : List UInt8) (n : Int) : getH (delH H a n) a n = none := by
  unfold getH delH
  rw [List.find?_eq_none]
  intro h hh
  have := (List.mem_filter.1 hh).2
  simpa using this
theorem getH_del_other {H : List Hd} (h : RiseH H) {a b : List UInt8} {n m : Int} (hne : ¬ (a = b ∧ n = m)) : getH (delH H a n) b m = getH H b m :=
  get_ext (rise_filter h _) (fun x hx => by
    obtain ⟨h1, h2, h3⟩ := getH_some hx
    refine ⟨List.mem_filter.2 ⟨h1, ?_⟩, h2, h3⟩
    cases hq : x.at a n with
    | false => rfl
    | true => obtain ⟨e1, e2⟩ := Hd.at_iff.1 hq; exact absurd ⟨e1.symm.trans h2, e2.symm.trans h3⟩ hne) (fun e x hx => getH_none e x (List.mem_filter.1 hx).1)
theorem rise_perm_eq {G H : List Hd} (hp : G.Perm H) (hG : RiseH G) (hH : RiseH H) : G = H := by
  induction G generalizing H with
  | nil => exact (List.nil_perm.1 hp).symm ▸ rfl
  | cons a r ih =>
    cases H with
    | nil => exact absurd hp.length_eq (by simp)
    | cons b t =>
      have hab : a = b := by
        have h1 : a ∈ b :: t := hp.mem_iff.1 List.mem_cons_self
        have h2 : b ∈ a :: r := hp.mem_iff.2 List.mem_cons_self
        rcases List.mem_cons.1 h1 with e | h1
        · exact e
        · rcases List.mem_cons.1 h2 with e | h2
          · exact e.symm
          · have g1 := (List.pairwise_cons.1 hH).1 a h1
            have g2 := (List.pairwise_cons.1 hG).1 b h2
            rw [hB_asymm g1] at g2
            cases g2
      subst hab
      rw [ih (List.Perm.cons_inv hp) (List.pairwise_cons.1 hG).2 (List.pairwise_cons.1 hH).2]
def kl (a : List UInt8) (n : Int) : Lit := .string (keyBytes [.string a, .int .i64 n])
theorem isKey_kl (a : List UInt8) (n : Int) : WideAt.IsKeyLit (kl a n) := isKey_str _
def KeyOk (a : List UInt8) (n : Int) : Prop := a.length ≤ maxLen ∧ In64 n
structure RepH (D : DataW Unit) (H : List Hd) : Prop where
  tidy : Tidy D
  size : Maps.size D = H.length
  has : ∀ a n, KeyOk a n → Maps.has D (kl a n) = (getH H a n).isSome
  look : ∀ a n, KeyOk a n → ∀ z, D.atKey (kl a n) z = match getH H a n with | some h => .lit (.int .i64 h.sum) | none => z
def KlInj : Prop := ∀ a b n m, KeyOk a n → KeyOk b m → kl a n = kl b m → a = b ∧ n = m
theorem RepH.nil : RepH (.map []) [] := ⟨tidy_empty, rfl, fun _ _ _ => rfl, fun _ _ _ _ => rfl⟩
theorem RepH.put (hi : KlInj) {D : DataW Unit} {H : List Hd} (h : RepH D H) (hr : RiseH H) (x : Hd) (hx : x.ok) (hn : getH H x.acct x.num = none) : RepH (D.put (kl x.acct x.num) (.lit (.int .i64 x.sum))) (insH x H) := by
  have hk : KeyOk x.acct x.num := ⟨hx.1, hx.2.1⟩
  refine ⟨h.tidy.put (isKey_kl _ _) _, ?_, fun a n hkn => ?_, fun a n hkn z => ?_⟩
  · rw [size_put h.tidy, h.has _ _ hk, hn, h.size, len_insH]
    rfl
  · by_cases e : x.acct = a ∧ x.num = n
    · obtain ⟨rfl, rfl⟩ := e
      rw [has_put_same h.tidy.isMap (isKey_kl _ _), getH_ins_same hr hn]
      rfl
    · rw [has_put_other (fun e2 => e (by obtain ⟨h1, h2⟩ := hi _ _ _ _ hkn hk e2; exact ⟨h1.symm, h2.symm⟩)), h.has a n hkn, getH_ins_other hr hn e]
  · by_cases e : x.acct = a ∧ x.num = n
    · obtain ⟨rfl, rfl⟩ := e
      rw [atKey_put_same h.tidy.isMap (isKey_kl _ _), getH_ins_same hr hn]
    · rw [atKey_put_other (fun e2 => e (by obtain ⟨h1, h2⟩ := hi _ _ _ _ hkn hk e2; exact ⟨h1.symm, h2.symm⟩)), h.look a n hkn, getH_ins_other hr hn e]
theorem len_delH {H : List Hd} (hr : RiseH H) (a : List UInt8) (n : Int) : (delH H a n).length + (if (getH H a n).isSome then 1 else 0) = H.length := by
  induction H with
  | nil => rfl
  | cons c r ih =>
    obtain ⟨h1, h2⟩ := List.pairwise_cons.1 hr
    have ih := ih h2
    unfold delH getH at ih ⊢
    rw [List.filter_cons, List.find?_cons]
    by_cases hc : c.at a n = true
    · rw [hc]
      simp only [Bool.not_true, Bool.false_eq_true, if_false, Option.isSome_some, if_true, List.length_cons]
      have : r.find? (fun h => h.at a n) = none := by
        rw [List.find?_eq_none]
        intro y hy hya
        obtain ⟨e1, e2⟩ := Hd.at_iff.1 hc
        obtain ⟨e3, e4⟩ := Hd.at_iff.1 hya
        have := h1 y hy
        rw [hB_irrefl (e1.trans e3.symm) (e2.trans e4.symm)] at this
        cases this
      rw [this] at ih
      simp at ih
      have e : (r.filter fun h => !h.at a n).length = r.length := by rw [List.filter_eq_self.2]; intro y hy; simpa using ih y hy
      omega
    · have hc' : c.at a n = false := by simpa using hc
      rw [hc']
      simp only [Bool.not_false, if_true, List.length_cons]
      omega
theorem RepH.del (hi : KlInj) {D : DataW Unit} {H : List Hd} (h : RepH D H) (hr : RiseH H) (a : List UInt8) (n : Int) (hk : KeyOk a n) : RepH (D.del (kl a n)) (delH H a n) := by
  refine ⟨h.tidy.del _, ?_, fun b m hkm => ?_, fun b m hkm z => ?_⟩
  · have h1 := size_del (k := kl a n) h.tidy
    have h2 := len_delH hr a n
    rw [h.has a n hk, h.size] at h1
    omega
  · by_cases e : a = b ∧ n = m
    · obtain ⟨rfl, rfl⟩ := e
      rw [has_del_same, getH_del_same]
      rfl
    · rw [has_del_other (fun e2 => e (by obtain ⟨h1, h2⟩ := hi _ _ _ _ hkm hk e2; exact ⟨h1.symm, h2.symm⟩)), h.has b m hkm, getH_del_other hr e]
  · by_cases e : a = b ∧ n = m
    · obtain ⟨rfl, rfl⟩ := e
      rw [atKey_del_same, getH_del_same]
    · rw [atKey_del_other (fun e2 => e (by obtain ⟨h1, h2⟩ := hi _ _ _ _ hkm hk e2; exact ⟨h1.symm, h2.symm⟩)), h.look b m hkm, getH_del_other hr e]
end Go.My
namespace Go.My
open Go Go.RowKit Go.Maps Go.WideMaps
set_option linter.unusedSimpArgs false
set_option linter.unusedVariables false
structure PairKey (P : Program) (k : TypeId) (f0 f1 : Field) : Prop where
  under : P.underlying k = some (.struct #[f0, f1])
  o0 : f0.offset = 0
  o1 : f1.offset = 1
  n0 : ¬ f0.name = "_"
  n1 : ¬ f1.name = "_"
  cells : P.cellsOf k = 2
  c0 : P.cellsOf f0.type = 1
  c1 : P.cellsOf f1.type = 1
  str : P.underlying f0.type = some .string
  int : P.underlying f1.type = some (.int .i64)
  key : P.keyType k = true
  size : 0 < P.types.size
theorem wfI {n : Int} : (Lit.int .i64 n).wf = true ↔ In64 n := by
  unfold In64 Lit.wf IntKind.min IntKind.max
  simp [IntKind.signed, IntKind.bits]
section
variable {P : Program} {k : TypeId} {f0 f1 : Field}
theorem lits_s {t : TypeId} (ht : P.underlying t = some .string) (m : Nat) (v : Value) (L : List Lit) : P.keyLits (m + 1) t [v] = some L ↔ ∃ s : ByteArray, v = .string s ∧ s.size ≤ maxLen ∧ L = [.string s.data.toList] := by
  unfold Program.keyLits
  rw [ht]
  constructor
  · intro h
    cases v <;> simp at h
    exact ⟨_, rfl, h.1, h.2.symm⟩
  · rintro ⟨s, rfl, hs, rfl⟩
    simp [hs]
theorem lits_i {t : TypeId} (ht : P.underlying t = some (.int .i64)) (m : Nat) (v : Value) (L : List Lit) : P.keyLits (m + 1) t [v] = some L ↔ ∃ n : Int, v = .int .i64 n ∧ In64 n ∧ L = [.int .i64 n] := by
  unfold Program.keyLits
  rw [ht]
  constructor
  · intro h
    cases v <;> simp at h
    obtain ⟨⟨rfl, h⟩, rfl⟩ := h
    exact ⟨_, rfl, wfI.1 h, rfl⟩
  · rintro ⟨s, rfl, hs, rfl⟩
    simp [wfI.2 hs]
theorem keyLits_pair (h : PairKey P k f0 f1) (m : Nat) (cs : List Value) :
    P.keyLits (m + 1) k cs = if cs.length = 2 then (P.keyLits m f0.type (cs.take 1)).bind fun l1 => (P.keyLits m f1.type ((cs.drop 1).take 1)).map fun l2 => [l1, l2].flatten else none := by
  conv => lhs; unfold Program.keyLits
  simp only [h.under, h.cells]
  by_cases hc : cs.length = 2
  · rw [if_pos ⟨hc, by simpa using ⟨h.n0, h.n1⟩⟩, if_pos hc]
    simp only [List.mapM_cons, List.mapM_nil, h.o0, h.o1, h.c0, h.c1, List.drop_zero]
    cases P.keyLits m f0.type (cs.take 1) with
    | none => rfl
    | some l1 =>
      cases P.keyLits m f1.type ((cs.drop 1).take 1) with
      | none => rfl
      | some l2 => rfl
  · rw [if_neg (fun e => hc e.1), if_neg hc]
theorem keyLits_hd (hp : PairKey P k f0 f1) (m : Nat) (cs : List Value) (L : List Lit) : P.keyLits (m + 1 + 1) k cs = some L ↔ ∃ (s : ByteArray) (n : Int), cs = [.string s, .int .i64 n] ∧ s.size ≤ maxLen ∧ In64 n ∧ L = [.string s.data.toList, .int .i64 n] := by
  rw [keyLits_pair hp]
  constructor
  · intro h
    split at h
    · rename_i hl
      match cs, hl with
      | [x, y], _ =>
        simp only [List.take_succ_cons, List.take_zero, List.drop_succ_cons, List.drop_zero, Option.bind_eq_some_iff, Option.map_eq_some_iff] at h
        obtain ⟨l1, h1, l2, h2, rfl⟩ := h
        obtain ⟨s, rfl, hs, rfl⟩ := (lits_s hp.str m x l1).1 h1
        obtain ⟨n, rfl, hn, rfl⟩ := (lits_i hp.int m y l2).1 h2
        exact ⟨s, n, rfl, hs, hn, rfl⟩
    · cases h
  · rintro ⟨s, n, rfl, hs, hn, rfl⟩
    rw [if_pos (show [Value.string s, Value.int .i64 n].length = 2 from rfl)]
    simp only [List.take_succ_cons, List.take_zero, List.drop_succ_cons, List.drop_zero, (lits_s hp.str m _ _).2 ⟨s, rfl, hs, rfl⟩, (lits_i hp.int m _ _).2 ⟨n, rfl, hn, rfl⟩]
    rfl
theorem PairKey.some_size (hp : PairKey P k f0 f1) : ∃ m, P.types.size = m + 1 := ⟨P.types.size - 1, by have := hp.size; omega⟩
theorem PairKey.wide (hp : PairKey P k f0 f1) : (match P.underlying k with | some (.array _ _) | some (.struct _) => true | _ => false) = true := by rw [hp.under]
theorem PairKey.of (hp : PairKey P k f0 f1) {s : ByteArray} {n : Int} (hs : s.size ≤ maxLen) (hn : In64 n) : keyOf P k (.agg #[.string s, .int .i64 n]) = some (kl s.data.toList n) := by
  obtain ⟨m, hm⟩ := hp.some_size
  have h := (keyLits_hd hp m [.string s, .int .i64 n] _).2 ⟨s, n, rfl, hs, hn, rfl⟩
  have hf : (Value.agg #[.string s, .int .i64 n]).formed P k = true := by
    unfold Value.formed
    rw [hp.under, hp.cells]
    rfl
  unfold keyOf
  rw [hp.under]
  simp only []
  rw [hp.key, hf, if_pos (show (true && true) = true from rfl), hm]
  show (P.keyLits (m + 1 + 1) k [.string s, .int .i64 n]).map _ = _
  rw [h]
  rfl
theorem PairKey.inv (hp : PairKey P k f0 f1) {v : Value} {l : Lit} (h : keyOf P k v = some l) : ∃ (s : ByteArray) (n : Int), v = .agg #[.string s, .int .i64 n] ∧ KeyOk s.data.toList n ∧ l = kl s.data.toList n := by
  obtain ⟨xs, L, rfl, h1, rfl⟩ := keyOf_top hp.wide h
  obtain ⟨m, hm⟩ := hp.some_size
  rw [hm] at h1
  obtain ⟨s, n, h2, hs, hn, rfl⟩ := (keyLits_hd hp m _ _).1 h1
  refine ⟨s, n, ?_, ⟨by simpa using hs, hn⟩, rfl⟩
  rw [← h2]
theorem PairKey.apart (hp : PairKey P k f0 f1) (hk : Keyed P k) : KlInj := by
  intro a b n m ha hb he
  have h1 := hp.of (s := ⟨a.toArray⟩) (by have h1 := ha.1; unfold ByteArray.size; simpa using h1) ha.2
  have h2 := hp.of (s := ⟨b.toArray⟩) (by have h1 := hb.1; unfold ByteArray.size; simpa using h1) hb.2
  simp only [List.toList_toArray] at h1 h2
  rw [he] at h1
  have h2 := hk.inj h1 h2
  simp only [Value.agg.injEq, Array.mk.injEq, List.cons.injEq, Value.string.injEq, ByteArray.mk.injEq, Value.int.injEq, and_true, true_and] at h2
  exact ⟨h2.1, h2.2⟩
end
end Go.My
namespace Go.Proofs.YtcpgamidimfflaaGreat
open Go.RowKit Go.My Go.Maps Go.WideMaps
set_option linter.unusedSimpArgs false
set_option linter.unusedVariables false
theorem laidA : laidOutB Tryz.prog = true := by kernel_rfl
theorem rowK : (215 : TypeId) < Tryz.prog.types.size := of_decide_eq_true (by kernel_rfl)
theorem lawH : KeyLaw Tryz.prog 215 := deep_law_laid laidA (m := 3) (by omega) rowK (by kernel_rfl) (by rw [Tryz.underlying215])
theorem keyedH : Keyed Tryz.prog 215 := Keyed.of_law lawH
theorem pairH : ∃ f0 f1, PairKey Tryz.prog 215 f0 f1 := ⟨_, _, {
  under := Tryz.underlying215
  o0 := rfl
  o1 := rfl
  n0 := by decide
  n1 := by decide
  cells := by kernel_rfl
  c0 := by kernel_rfl
  c1 := by kernel_rfl
  str := Tryz.underlying9
  int := Tryz.underlying3
  key := by kernel_rfl
  size := of_decide_eq_true (by kernel_rfl) }⟩
theorem key_of {s : ByteArray} {n : Int} (hs : s.size ≤ maxLen) (hn : In64 n) : keyOf Tryz.prog 215 (.agg #[.string s, .int .i64 n]) = some (kl s.data.toList n) := by
  obtain ⟨f0, f1, hp⟩ := pairH
  exact hp.of hs hn
theorem key_inv {v : Value} {l : Lit} (h : keyOf Tryz.prog 215 v = some l) : ∃ (s : ByteArray) (n : Int), v = .agg #[.string s, .int .i64 n] ∧ KeyOk s.data.toList n ∧ l = kl s.data.toList n := by
  obtain ⟨f0, f1, hp⟩ := pairH
  exact hp.inv h
theorem klInj : KlInj := by
  obtain ⟨f0, f1, hp⟩ := pairH
  exact hp.apart keyedH
end Go.Proofs.YtcpgamidimfflaaGreat
namespace Go.Proofs.YtcpgamidimfflaaGreat
open Go.RowKit Go.My Go.Maps Go.WideMaps
set_option linter.unusedSimpArgs false
set_option linter.unusedVariables false
noncomputable abbrev hdR : Value → Option (DataW Unit × List MemPlace) := plainElem Tryz.prog 2
theorem hdR_mk {n : Int} (h : In64 n) : hdR (.int .i64 n) = some (.lit (.int .i64 n), []) := plainElem_int Tryz.underlying2 (wfI.2 h)
structure HMp (w : World) (m : Nat) (H : List Hd) : Prop where
  own : ∃ D, w.ownsMap Tryz.prog 215 hdR m H.length D ∧ RepH D H
  rise : RiseH H
  ok : ∀ h ∈ H, h.ok
def HdS (w : World) (p m : Nat) (H : List Hd) : Prop := Blk w p 189 #[.map (some m)] ∧ HMp w m H
section
variable {w w' : World} {p m : Nat} {H : List Hd}
theorem HMp.lt (h : HMp w m H) : m < w.heap.size := by
  obtain ⟨D, hD, _⟩ := h.own
  exact hD.lt
theorem HMp.fr {F : Nat → Prop} (h : HMp w m H) (hf : Fr F w w') (hn : ¬ F m) : HMp w' m H := by
  obtain ⟨⟨D, ⟨es, clock, hb, r⟩, hR⟩, hr, ho⟩ := h
  exact ⟨⟨D, ⟨es, clock, (hf.block m (Array.getElem?_eq_some_iff.1 hb).1 hn).trans hb, r⟩, hR⟩, hr, ho⟩
theorem HMp.ne_ {g : Nat} {t : TypeId} {cs : Array Value} (h : HMp w m H) (hg : Blk w g t cs) : m ≠ g := by
  rintro rfl
  obtain ⟨⟨D, ⟨es, clock, hb, _⟩, _⟩, _⟩ := h
  unfold Blk at hg
  rw [hb] at hg
  cases hg
theorem HdS.ne_ (h : HdS w p m H) : m ≠ p := h.2.ne_ h.1
theorem HdS.fr {F : Nat → Prop} (h : HdS w p m H) (hf : Fr F w w') (hp : ¬ F p) (hn : ¬ F m) : HdS w' p m H := ⟨h.1.fr hf hp, h.2.fr hf hn⟩
theorem HdS.no (h : HdS w p m H) (hf : Fr No w w') : HdS w' p m H := h.fr hf (fun h => h) (fun h => h)
theorem HMp.below {B : Nat} (h : HMp w m H) (hb : Below B w w') (hm : m < B) : HMp w' m H := by
  obtain ⟨⟨D, ⟨es, clock, hm1, r⟩, hR⟩, hr, ho⟩ := h
  exact ⟨⟨D, ⟨es, clock, (hb.block m hm).trans hm1, r⟩, hR⟩, hr, ho⟩
theorem HdS.below {B : Nat} (h : HdS w p m H) (hb : Below B w w') (hp : p < B) (hm : m < B) : HdS w' p m H := ⟨h.1.below hb hp, h.2.below hb hm⟩
def sumO : Option Hd → Int
  | some h => h.sum
  | none => 0
theorem zeroI (w : World) : (zeroValue 2).run Tryz.prog w = .ok (.int .i64 0) w := by kernel_rfl
theorem HMp.look (h : HMp w m H) (s : ByteArray) (n : Int) (hs : s.size ≤ maxLen) (hn : In64 n) :
    (Instr.lookup 187 (.map (some m)) (.agg #[.string s, .int .i64 n]) true).run Tryz.prog w = .ok (.tuple #[.int .i64 (sumO (getH H s.data.toList n)), .bool (getH H s.data.toList n).isSome]) w := by
  obtain ⟨D, hD, hR⟩ := h.own
  obtain ⟨v, ps, hrun, hv⟩ := hD.look_ok keyedH Tryz.underlying187 (zeroI w) (hdR_mk (show In64 0 by unfold In64; omega)) (key_of hs hn)
  have hk : KeyOk s.data.toList n := ⟨by simpa using hs, hn⟩
  rw [hR.has _ _ hk] at hrun
  rw [hR.look _ _ hk] at hv
  obtain ⟨c, rfl, hc, hwc⟩ := plainElem_int_inv Tryz.underlying2 hv
  rw [hrun]
  have : c = sumO (getH H s.data.toList n) := by
    cases hg : getH H s.data.toList n with
    | none =>
      rw [hg] at hc
      simp only [Prod.mk.injEq, DataW.lit.injEq, Lit.int.injEq, true_and] at hc
      exact hc.1.symm
    | some a =>
      rw [hg] at hc
      simp only [Prod.mk.injEq, DataW.lit.injEq, Lit.int.injEq, true_and] at hc
      exact hc.1.symm
  rw [this]
theorem HMp.put (h : HMp w m H) (s : ByteArray) (n x : Int) (hx : Hd.ok ⟨n, s.data.toList, x⟩) (hg : getH H s.data.toList n = none) (hl : H.length < maxLen) :
    ∃ w', (Instr.mapUpdate 187 (.map (some m)) (.agg #[.string s, .int .i64 n]) (.int .i64 x)).run Tryz.prog w = .ok () w' ∧ HMp w' m (insH ⟨n, s.data.toList, x⟩ H) ∧ Fr (At1 m) w w' := by
  obtain ⟨D, hD, hR⟩ := h.own
  have hs : s.size ≤ maxLen := by have h1 := hx.1; simpa using h1
  obtain ⟨w', hrun, hown, hgr⟩ := hD.update keyedH Tryz.underlying187 hl (key_of hs hx.2.1) (hdR_mk hx.2.2)
  refine ⟨w', hrun, ⟨⟨_, ?_, hR.put klInj h.rise ⟨n, s.data.toList, x⟩ hx hg⟩, rise_insH _ _ h.rise hg, ?_⟩, fr_grown hgr⟩
  · rw [len_insH]
    exact hown
  · intro y hy
    rcases (mem_insH _ _ _).1 hy with rfl | hy
    · exact hx
    · exact h.ok y hy
theorem HMp.drop (h : HMp w m H) (s : ByteArray) (n : Int) (hs : s.size ≤ maxLen) (hn : In64 n) (ty : TypeId) :
    ∃ w', (Builtin.delete_ #[187, 215] ty #[.map (some m), .agg #[.string s, .int .i64 n]]).run Tryz.prog w = .ok (.tuple #[]) w' ∧ HMp w' m (delH H s.data.toList n) ∧ Fr (At1 m) w w' := by
  obtain ⟨D, hD, hR⟩ := h.own
  obtain ⟨w', hrun, hown, ht⟩ := hD.drop keyedH Tryz.underlying187 (key_of hs hn) ty
  have hR' := hR.del klInj h.rise s.data.toList n ⟨by simpa using hs, hn⟩
  refine ⟨w', hrun, ⟨⟨_, ?_, hR'⟩, rise_filter h.rise _, fun y hy => h.ok y (List.mem_filter.1 hy).1⟩, fr_grown ht.grown⟩
  obtain ⟨es, clock, hb, F, hs, hD⟩ := hown
  refine ⟨es, clock, hb, F, ?_, hD⟩
  have h1 := hR'.size
  rw [hD, Maps.size_eq, length_sorted, List.length_map] at h1
  simp at h1
  omega
theorem wpList_putH (w : World) {ops : Array Oper} {rest : List Oper} {o : Oper} {a : Act} {Q : Exit → Act → World → Prop} (hg : o.guard = none) (x y z : Operand) (hop : o.op = Op.mapUpdate 187 x y z)
    {b : Nat} {H : List Hd} (hx : a.eval x = .map (some b)) (h : HMp w b H) (s : ByteArray) (n t : Int) (hy : a.eval y = .agg #[.string s, .int .i64 n]) (hz : a.eval z = .int .i64 t) (hk : Hd.ok ⟨n, s.data.toList, t⟩) (hn : getH H s.data.toList n = none) (hl : H.length < maxLen)
    (hK : ∀ w', HMp w' b (insH ⟨n, s.data.toList, t⟩ H) → Fr (At1 b) w w' → wpList Tryz.prog ops Q rest (a.put o.dst undef) w') : wpList Tryz.prog ops Q (o :: rest) a w := by
  refine wpList_plain hg fun K' hK' => ?_
  obtain ⟨w', hrun, r1, r2⟩ := h.put s n t hk hn hl
  unfold Oper.wp
  simp [execOp, hop, hx, hy, hz, hrun, Result.andThen]
  exact hK' _ _ (hK w' r1 r2)
theorem wpList_delH (w : World) {ops : Array Oper} {rest : List Oper} {o : Oper} {a : Act} {Q : Exit → Act → World → Prop} (hg : o.guard = none) (x y : Operand) (hop : o.op = Op.call { callee := Callee.builtin Builtin.delete, args := #[x, y], argTypes := #[187, 215] })
    {b : Nat} {H : List Hd} (hx : a.eval x = .map (some b)) (h : HMp w b H) (s : ByteArray) (n : Int) (hy : a.eval y = .agg #[.string s, .int .i64 n]) (hs : s.size ≤ maxLen) (hn : In64 n)
    (hK : ∀ w', HMp w' b (delH H s.data.toList n) → Fr (At1 b) w w' → wpList Tryz.prog ops Q rest (a.put o.dst (.tuple #[])) w') : wpList Tryz.prog ops Q (o :: rest) a w := by
  refine wpList_plain hg fun K' hK' => ?_
  obtain ⟨w', hrun, r1, r2⟩ := h.drop s n hs hn o.type
  unfold Oper.wp
  simp [execOp, hop, resolve, invoke, builtin, hx, hy, hrun, Result.andThen]
  exact hK' _ _ (hK w' r1 r2)
end
def MadeH (w : World) (e : Ending) (w' : World) : Prop := ∃ p m, e = .returned (.pointer (some ⟨p, 0, none⟩)) ∧ HdS w' p m [] ∧ Fr No w w' ∧ w.heap.size ≤ p ∧ w.heap.size ≤ m
theorem newH_any (w : World) : Calls Tryz.prog 80 #[] w (MadeH w) := by
  have hmm := @run_makeMap Tryz.prog
  go_enter Tryz.func80, Tryz.ntmps80
  go_wp2
  go_ret
  have hbk := Blk.new (w.alloc (.map #[] 0)) 189 #[.map (some w.heap.size)]
  rw [World.size_alloc] at hbk
  refine ⟨_, w.heap.size, rfl, ⟨hbk, ?_⟩, ((Fr.refl _ _).alloc _).alloc _, by simp, by omega⟩
  have h : HMp (w.alloc (.map #[] 0)) w.heap.size [] := ⟨⟨_, World.ownsMap_made _ _ _ _, RepH.nil⟩, List.Pairwise.nil, fun h hh => by cases hh⟩
  exact h.fr ((Fr.refl No _).alloc _) (fun h => h)
end Go.Proofs.YtcpgamidimfflaaGreat
