/- Holds, and steps of a script, read from memory one by one; sums of a part. What a book has: Accts, Holds, Closed, Copy, Same. A runner in memory. Known, Waits of a runner in memory; how many there may be. What is stored in a runner's maps. New, List, Book, Told. Told. execute. -/
import Derived.Test.YtcpgamidimfflaaGreatQ22
import Derived.Deep.QuietTactic
import Derived.BigQuiet
import Derived.Test.YtcpgamidimfflaaGreatQ18
import Derived.Test.YtcpgamidimfflaaGreatQ19
import Derived.Test.YtcpgamidimfflaaGreatQ20
import Derived.Deep.RegionHeld3
import Derived.Deep.DrawnRows
import Derived.Deep.CutBlock
namespace Go.Proofs.YtcpgamidimfflaaGreat
open Go.RowKit Go.My Go.Maps
set_option linter.unusedSimpArgs false
set_option linter.unusedVariables false
theorem St.parts {S : List Ac} {H : List Hd} (h : St S H) {a : Ac} (ha : a ∈ S) : (∀ x ∈ ofH H a.name, 0 < x.sum) ∧ total ((ofH H a.name).map Hd.sum) = a.st ∧ (ofH H a.name).length ≤ 8 :=
  ⟨fun x hx => (h.pos x (List.mem_filter.1 hx).1).2.2.1, h.kp.set a.name a (getA_mem h.kp.inv.rise ha), h.few _⟩
end Go.Proofs.YtcpgamidimfflaaGreat
namespace Go.Proofs.YtcpgamidimfflaaGreat
open Go.RowKit Go.My Go.Maps
set_option linter.unusedSimpArgs false
set_option linter.unusedVariables false
attribute [local go_sem ↓] Go.wp_at_zero Go.wp_at_succ
def NewB (w : World) (b : Bk) (e : Ending) (w' : World) : Prop := ∃ q : Pl, e = .returned (.pointer (some ⟨q.p, 0, none⟩)) ∧ BkS w' q b ∧ Fr No w w' ∧ ∀ i, q.all i → w.heap.size ≤ i
theorem NewB.of {w w' : World} {b : Bk} {c m h k : Nat} (hc : ChS w' c m b.S) (hh : HdS w' h k b.H) (hne : k ≠ m) (hi : BkI b) (hf : Fr No w w') (h1 : w.heap.size ≤ c) (h2 : w.heap.size ≤ m) (h3 : w.heap.size ≤ h) (h4 : w.heap.size ≤ k) :
    NewB w b (.returned (.pointer (some ⟨w'.heap.size, 0, none⟩))) (w'.alloc (.cells #[.pointer (some ⟨c, 0, none⟩), .pointer (some ⟨h, 0, none⟩), .int .i64 b.cl] 134)) := by
  refine ⟨⟨w'.heap.size, c, m, h, k⟩, rfl, ⟨Blk.new w' _ _, hc.no ((Fr.refl _ _).alloc _), hh.no ((Fr.refl _ _).alloc _), hne, hi⟩, hf.alloc _, ?_⟩
  intro i hi
  have := hf.size
  rcases hi with e | e | e | e | e <;> simp only at e <;> omega
end Go.Proofs.YtcpgamidimfflaaGreat
namespace Go.Proofs.YtcpgamidimfflaaGreat
open Go.RowKit Go.My Go.Maps
set_option linter.unusedSimpArgs false
set_option linter.unusedVariables false
structure Pr where
  p : Nat
  km : Nat
  wm : Nat
  tm : Nat
  q : Pl
  lv : Value
  E : Nat → Prop
def Pr.wr (r : Pr) (k : Nat) : Prop := k = r.p ∨ k = r.km ∨ k = r.wm ∨ k = r.tm ∨ r.q.all k ∨ r.lv.ownBlock = some k
def Pr.all (r : Pr) (k : Nat) : Prop := r.wr k ∨ r.E k
def EnAt (w : World) (E : Nat → Prop) : Option En → Option Value → Prop
  | none, ov => ov = none
  | some e, ov => ∃ v A c, ov = some (e.val v (.slice A e.deps.length c)) ∧ EnS w E e v A c
theorem EnS.frS {w w' : World} {E E' S : Nat → Prop} {e : En} {v : Value} {A : Option Addr} {c : Nat} (h : EnS w E e v A c) (hf : Fr S w w') (hn : ∀ k, E k → k < w.heap.size → ¬ S k) (hE : ∀ k, E k → E' k) : EnS w' E' e v A c :=
  ⟨h.ok, (h.legs.frS hf hn).more hE, (h.deps.fr (by decide : 0 < 2) hf hn).more hE, h.cap⟩
theorem EnAt.frS {w w' : World} {E E' S : Nat → Prop} (hf : Fr S w w') (hn : ∀ k, E k → k < w.heap.size → ¬ S k) (hE : ∀ k, E k → E' k) : ∀ {oe : Option En} {ov : Option Value}, EnAt w E oe ov → EnAt w' E' oe ov
  | none, ov, h => h
  | some e, ov, h => by
    obtain ⟨v, A, c, h1, h2⟩ := h
    exact ⟨v, A, c, h1, h2.frS hf hn hE⟩
def KnT (w : World) (E : Nat → Prop) (m : Nat) (get : In2 → Option En) : Prop := ∃ L f, TabI Tryz.prog 30 w m L f ∧ ∀ i, IdOk i → EnAt w E (get i) (f i)
def wtF (wt : In2 → Bool) (i : In2) : Option Value := if wt i = true then some (.agg #[]) else none
def WtT (w : World) (m : Nat) (wt : In2 → Bool) : Prop := ∃ L, TabI Tryz.prog 30 w m L (wtF wt)
def TdT (w : World) (m : Nat) (did : List Od) (tr : List Rp) : Prop := ∃ L, TabI Tryz.prog 32 w m L fun k => (lookT did tr k).map Rp.val
def LsT (w : World) (E : Nat → Prop) (lv : Value) (did : List Od) : Prop := ∃ cells, Own w 35 10 lv did.length cells ∧ Each (OdRF w E) 10 cells did
section
variable {w w' : World} {E E' S : Nat → Prop} {m : Nat}
theorem KnT.fr {get : In2 → Option En} (h : KnT w E m get) (hf : Fr S w w') (hm : ¬ S m) (hn : ∀ k, E k → k < w.heap.size → ¬ S k) (hE : ∀ k, E k → E' k) : KnT w' E' m get := by
  obtain ⟨L, f, h1, h2⟩ := h
  exact ⟨L, f, h1.fr hf hm, fun i hi => (h2 i hi).frS hf hn hE⟩
theorem WtT.fr {wt : In2 → Bool} (h : WtT w m wt) (hf : Fr S w w') (hm : ¬ S m) : WtT w' m wt := by
  obtain ⟨L, h1⟩ := h
  exact ⟨L, h1.fr hf hm⟩
theorem TdT.fr {did : List Od} {tr : List Rp} (h : TdT w m did tr) (hf : Fr S w w') (hm : ¬ S m) : TdT w' m did tr := by
  obtain ⟨L, h1⟩ := h
  exact ⟨L, h1.fr hf hm⟩
theorem OdRF.frS {cs : List Value} {o : Od} (h : OdRF w E cs o) (hf : Fr S w w') (hn : ∀ k, E k → k < w.heap.size → ¬ S k) (hE : ∀ k, E k → E' k) : OdRF w' E' cs o := by
  obtain ⟨v, h1, h2, h3, h4⟩ := h
  exact ⟨v, h1, h2, h3, (h4.frS hf hn).more hE⟩
theorem LsT.fr {lv : Value} {did : List Od} (h : LsT w E lv did) (hf : Fr S w w') (hm : ∀ k, lv.ownBlock = some k → ¬ S k) (hn : ∀ k, E k → k < w.heap.size → ¬ S k) (hE : ∀ k, E k → E' k) : LsT w' E' lv did := by
  obtain ⟨cells, h1, h2⟩ := h
  exact ⟨cells, h1.fr hf hm, each_imp h2 fun cs o h => h.frS hf hn hE⟩
theorem LsT.ods {A : Option Addr} {n c : Nat} {did : List Od} (h : LsT w E (.slice A n c) did) (hE : ∀ k, E k → k < w.heap.size) : OdsS w w (fun k => (Value.slice A n c).ownBlock = some k) A did := by
  obtain ⟨cells, ho, h2⟩ := h
  exact ⟨cells, ho.rd, each_imp h2 fun cs o h => h.r hE⟩
end
structure RnM (w : World) (r : Pr) (s : Ru) : Prop where
  blk : Blk w r.p 92 #[.map (some r.km), .map (some r.wm), r.lv, .map (some r.tm), .pointer (some ⟨r.q.p, 0, none⟩)]
  kn : KnT w r.E r.km s.get
  wt : WtT w r.wm s.wt
  ls : LsT w r.E r.lv s.did
  td : TdT w r.tm s.did s.tr
  bk : BkS w r.q s.b
  lt : ∀ k, r.E k → k < w.heap.size
  ap : ∀ k, r.E k → ¬ r.wr k
  ne : r.km ≠ r.wm ∧ r.km ≠ r.tm ∧ r.wm ≠ r.tm ∧ (∀ k, r.q.all k → k ≠ r.km ∧ k ≠ r.wm ∧ k ≠ r.tm)
  di : DiI s
section
variable {w w' : World} {r : Pr} {s : Ru}
theorem RnM.fr {S : Nat → Prop} (h : RnM w r s) (hf : Fr S w w') (hn : ∀ k, r.all k → ¬ S k) : RnM w' r s where
  blk := h.blk.fr hf (hn _ (.inl (.inl rfl)))
  kn := h.kn.fr hf (hn _ (.inl (.inr (.inl rfl)))) (fun k hk _ => hn k (.inr hk)) fun _ h => h
  wt := h.wt.fr hf (hn _ (.inl (.inr (.inr (.inl rfl)))))
  ls := h.ls.fr hf (fun k hk => hn k (.inl (.inr (.inr (.inr (.inr (.inr hk))))))) (fun k hk _ => hn k (.inr hk)) fun _ h => h
  td := h.td.fr hf (hn _ (.inl (.inr (.inr (.inr (.inl rfl))))))
  bk := h.bk.fr hf fun k hk => hn k (.inl (.inr (.inr (.inr (.inr (.inl hk))))))
  lt := fun k hk => Nat.lt_of_lt_of_le (h.lt k hk) hf.size
  ap := h.ap
  ne := h.ne
  di := h.di
theorem RnM.no (h : RnM w r s) (hf : Fr No w w') : RnM w' r s := h.fr hf fun _ _ h => h
theorem KnT.lt {E : Nat → Prop} {m : Nat} {get : In2 → Option En} (h : KnT w E m get) : m < w.heap.size := by obtain ⟨L, f, h1, _⟩ := h; exact h1.lt
theorem WtT.lt {m : Nat} {wt : In2 → Bool} (h : WtT w m wt) : m < w.heap.size := by obtain ⟨L, h1⟩ := h; exact h1.lt
theorem TdT.lt {m : Nat} {did : List Od} {tr : List Rp} (h : TdT w m did tr) : m < w.heap.size := by obtain ⟨L, h1⟩ := h; exact h1.lt
theorem KnT.ne_ {E : Nat → Prop} {m g : Nat} {t : TypeId} {cs : Array Value} {get : In2 → Option En} (h : KnT w E m get) (hg : Blk w g t cs) : m ≠ g := by obtain ⟨L, f, h1, _⟩ := h; exact h1.ne_ hg
theorem WtT.ne_ {m g : Nat} {t : TypeId} {cs : Array Value} {wt : In2 → Bool} (h : WtT w m wt) (hg : Blk w g t cs) : m ≠ g := by obtain ⟨L, h1⟩ := h; exact h1.ne_ hg
theorem TdT.ne_ {m g : Nat} {t : TypeId} {cs : Array Value} {did : List Od} {tr : List Rp} (h : TdT w m did tr) (hg : Blk w g t cs) : m ≠ g := by obtain ⟨L, h1⟩ := h; exact h1.ne_ hg
theorem LsT.blk {E : Nat → Prop} {lv : Value} {did : List Od} (h : LsT w E lv did) : ∀ k, lv.ownBlock = some k → ∃ cur, Blk w k 35 cur := by obtain ⟨cells, h1, _⟩ := h; exact h1.blk
theorem RnM.alt (h : RnM w r s) : ∀ k, r.all k → k < w.heap.size := fun k hk => by
  rcases hk with (rfl | rfl | rfl | rfl | hk | hk) | hk
  · exact h.blk.lt
  · exact h.kn.lt
  · exact h.wt.lt
  · exact h.td.lt
  · exact h.bk.lt k hk
  · obtain ⟨cur, hb⟩ := h.ls.blk k hk
    exact hb.lt
  · exact h.lt k hk
theorem RnM.nek (h : RnM w r s) : r.km ≠ r.p ∧ (∀ k, r.lv.ownBlock = some k → r.km ≠ k) := ⟨h.kn.ne_ h.blk, fun k hk => by obtain ⟨cur, hb⟩ := h.ls.blk k hk; exact h.kn.ne_ hb⟩
theorem RnM.new_ (h : RnM w r s) : r.wm ≠ r.p ∧ (∀ k, r.lv.ownBlock = some k → r.wm ≠ k) := ⟨h.wt.ne_ h.blk, fun k hk => by obtain ⟨cur, hb⟩ := h.ls.blk k hk; exact h.wt.ne_ hb⟩
theorem RnM.net (h : RnM w r s) : r.tm ≠ r.p ∧ (∀ k, r.lv.ownBlock = some k → r.tm ≠ k) := ⟨h.td.ne_ h.blk, fun k hk => by obtain ⟨cur, hb⟩ := h.ls.blk k hk; exact h.td.ne_ hb⟩
theorem RnM.nel (h : RnM w r s) : ∀ k, r.lv.ownBlock = some k → r.p ≠ k := fun k hk => by
  obtain ⟨cur, hb⟩ := h.ls.blk k hk
  exact h.blk.ne_ hb (by decide)
theorem BkS.bl {q : Pl} {b : Bk} (h : BkS w q b) {g : Nat} {t : TypeId} {cs : Array Value} (hg : Blk w g t cs) (h1 : t ≠ 134) (h2 : t ≠ 186) (h3 : t ≠ 189) : ∀ k, q.all k → k ≠ g := fun k hk => by
  rcases hk with rfl | rfl | rfl | rfl | rfl
  · exact h.blk.ne_ hg (Ne.symm h1)
  · exact h.ch.1.ne_ hg (Ne.symm h2)
  · exact h.ch.2.ne_ hg
  · exact h.hd.1.ne_ hg (Ne.symm h3)
  · exact h.hd.2.ne_ hg
theorem RnM.neb (h : RnM w r s) : ∀ k, r.q.all k → k ≠ r.p ∧ ∀ j, r.lv.ownBlock = some j → k ≠ j := fun k hk =>
  ⟨h.bk.bl h.blk (by decide) (by decide) (by decide) k hk, fun j hj => by
    obtain ⟨cur, hb⟩ := h.ls.blk j hj
    exact h.bk.bl hb (by decide) (by decide) (by decide) k hk⟩
end
structure RnS (w : World) (r : Pr) (s : Ru) : Prop extends RnM w r s where
  inv : RuI s
theorem RnS.fr {w w' : World} {r : Pr} {s : Ru} {S : Nat → Prop} (h : RnS w r s) (hf : Fr S w w') (hn : ∀ k, r.all k → ¬ S k) : RnS w' r s := ⟨h.toRnM.fr hf hn, h.inv⟩
theorem RnS.no {w w' : World} {r : Pr} {s : Ru} (h : RnS w r s) (hf : Fr No w w') : RnS w' r s := ⟨h.toRnM.no hf, h.inv⟩
def RetRn (w : World) (s : Ru) (e : Ending) (w' : World) : Prop := ∃ r : Pr, e = .returned (.pointer (some ⟨r.p, 0, none⟩)) ∧ RnS w' r s ∧ Fr No w w' ∧ ∀ k, r.all k → w.heap.size ≤ k
def ChgRn (r : Pr) (w : World) (s : Ru) (w' : World) : Prop := ∃ r' : Pr, r'.p = r.p ∧ RnS w' r' s ∧ Fr r.wr w w' ∧ ∀ k, r'.all k → r.all k ∨ w.heap.size ≤ k
theorem ChgRn.same {r : Pr} {w w' : World} {s : Ru} (h : RnS w r s) (hf : Fr No w w') : ChgRn r w s w' := ⟨r, rfl, h.no hf, hf.mono fun _ _ h => False.elim h, fun k hk => .inl hk⟩
end Go.Proofs.YtcpgamidimfflaaGreat
namespace Go.Proofs.YtcpgamidimfflaaGreat
open Go.RowKit Go.My Go.Maps
set_option linter.unusedSimpArgs false
set_option linter.unusedVariables false
theorem rightI_ok {i : In2} (h : rightI i = true) : IdOk i := by
  unfold rightI at h
  have := of_decide_eq_true h
  unfold IdOk In64
  omega
theorem nodup_map_inj {α β : Type} {l : List α} {f : α → β} (h : l.Nodup) (hf : ∀ x ∈ l, ∀ y ∈ l, f x = f y → x = y) : (l.map f).Nodup := by
  unfold List.Nodup at *
  rw [List.pairwise_map]
  exact h.imp_of_mem fun hx hy hne e => hne (hf _ hx _ hy e)
theorem right_few {l : List In2} (hn : l.Nodup) (h : ∀ i ∈ l, rightI i = true) : l.length ≤ 80000 := by
  have hk : ∀ i ∈ l, 0 ≤ i.1 ∧ i.1 ≤ 6 ∧ 1 ≤ i.2 ∧ i.2 ≤ 10000 := fun i hi => of_decide_eq_true (h i hi)
  have h1 : (l.map fun i : In2 => (10001 * i.1 + i.2).toNat).Nodup := nodup_map_inj hn fun x hx y hy e => by
    have hx1 := hk x hx
    have hy1 := hk y hy
    exact Prod.ext (by omega) (by omega)
  have h2 := (nodup_len (b := List.range 80000) h1 fun x hx => by
    obtain ⟨i, hi, rfl⟩ := List.mem_map.1 hx
    have := hk i hi
    rw [List.mem_range]
    omega).1
  rw [List.length_map, List.length_range] at h2
  exact h2
theorem DiI.few {s : Ru} (h : DiI s) : s.did.length ≤ 10000 := by
  have hk : ∀ o ∈ s.did, 0 ≤ o.cl ∧ o.cl ≤ 9 ∧ 1 ≤ o.sq ∧ o.sq ≤ 999 := fun o ho => (right_kd (h.dok o ho).2).2.1
  have h1 : ((s.did.map Od.id).map fun i : Idk => (1000 * i.1 + i.2).toNat).Nodup := nodup_map_inj h.ids fun x hx y hy e => by
    obtain ⟨o, ho, rfl⟩ := List.mem_map.1 hx
    obtain ⟨p, hp, rfl⟩ := List.mem_map.1 hy
    have hx1 := hk o ho
    have hy1 := hk p hp
    unfold Od.id at *
    exact Prod.ext (by show o.cl = p.cl; simp only at e; omega) (by show o.sq = p.sq; simp only at e; omega)
  have h2 := (nodup_len (b := List.range 10000) h1 fun x hx => by
    obtain ⟨i, hi, rfl⟩ := List.mem_map.1 hx
    obtain ⟨o, ho, rfl⟩ := List.mem_map.1 hi
    have := hk o ho
    rw [List.mem_range]
    unfold Od.id
    simp only
    omega).1
  rw [List.length_map, List.length_map, List.length_range] at h2
  exact h2
theorem RuI.ri {s : Ru} (h : RuI s) : ∀ i ∈ s.ks, rightI i = true := fun i hi => by
  obtain ⟨x, hx, rfl⟩ := List.mem_map.1 hi
  exact rightE_i (h.right x hx)
theorem RuI.few {s : Ru} (h : RuI s) : s.ks.length ≤ 80000 := right_few h.rise.nodup h.ri
theorem rise_of {L L' M : List In2} (p : L'.Perm L) (hp : L'.Pairwise fun a b => aheadI b a = false) (hn : L.Nodup) (hM : RiseI M) (hm : ∀ x, x ∈ L ↔ x ∈ M) : L' = M := by
  have h1 : L'.Nodup := p.nodup_iff.2 hn
  refine riseI_ext ((hp.and h1).imp fun {a b} h => ?_) hM fun x => p.mem_iff.trans (hm x)
  rcases aheadI_total h.2 with k | k
  · exact k
  · rw [h.1] at k; cases k
theorem keys_mem {w : World} {E : Nat → Prop} {s : Ru} (hi : RuI s) {m : Nat} {L : List Idk} {f : Idk → Option Value} (h : TabI Tryz.prog 30 w m L f) (he : ∀ i, IdOk i → EnAt w E (s.get i) (f i)) (x : In2) : x ∈ L ↔ x ∈ s.ks := by
  have key : IdOk x → ((f x).isSome = true ↔ x ∈ s.ks) := fun hx => by
    have h1 := he x hx
    rw [← Ru.get_mem]
    cases hg : s.get x with
    | none => rw [hg] at h1; have h1 : f x = none := h1; rw [h1]; exact ⟨fun h => (by cases h), fun h => (by cases h)⟩
    | some e => rw [hg] at h1; obtain ⟨v, A, c, h1, _⟩ := h1; rw [h1]; exact ⟨fun _ => rfl, fun _ => rfl⟩
  constructor
  · intro hx
    exact (key (h.ok x hx)).1 ((h.mem x).1 hx)
  · intro hx
    exact (h.mem x).2 ((key (rightI_ok (hi.ri x hx))).2 hx)
theorem wts_mem {w : World} {s : Ru} (hi : RuI s) {m : Nat} {L : List Idk} (h : TabI Tryz.prog 30 w m L (wtF s.wt)) (x : In2) : x ∈ L ↔ x ∈ s.ws := by
  rw [h.mem, ws_mem hi]
  unfold wtF
  by_cases e : s.wt x = true
  · rw [if_pos e]; exact ⟨fun _ => e, fun _ => rfl⟩
  · rw [if_neg e]; exact ⟨fun h => (by cases h), fun h => absurd h e⟩
theorem len_of {L M : List In2} (hL : L.Nodup) (hM : M.Nodup) (h : ∀ x, x ∈ L ↔ x ∈ M) : L.length = M.length := ((List.perm_ext_iff_of_nodup hL hM).2 h).length_eq
set_option maxRecDepth 100000 in
theorem knowns_any (w : World) (r : Pr) (s : Ru) (h : RnS w r s) : Calls Tryz.prog 25 #[.pointer (some ⟨r.p, 0, none⟩)] w (RetOwn w 30 2 none s.ks.length (ins2 s.ks)) := by
  obtain ⟨L, f, h1, h2⟩ := h.kn
  have hm := keys_mem h.inv h1 h2
  have hl := len_of h1.nd h.inv.rise.nodup hm
  refine (known_any r.p r.km _ _ _ _ L f w h.blk h1 (by have := h.inv.few; omega)).mono ?_
  rintro e w' ⟨v, L', rfl, p1, p2, p3, p4, p5⟩
  obtain rfl := rise_of p1 p2 h1.nd h.inv.rise hm
  exact ⟨v, rfl, hl ▸ p3, p5.mono fun _ _ h => False.elim h, p4⟩
set_option maxRecDepth 100000 in
theorem waitss_any (w : World) (r : Pr) (s : Ru) (h : RnS w r s) : Calls Tryz.prog 27 #[.pointer (some ⟨r.p, 0, none⟩)] w (RetOwn w 30 2 none s.ws.length (ins2 s.ws)) := by
  obtain ⟨L, h1⟩ := h.wt
  have hm := wts_mem h.inv h1
  have hl := len_of h1.nd (ws_rise h.inv).nodup hm
  have hle : s.ws.length ≤ s.ks.length := List.length_filter_le _ _
  refine (waits_any r.p r.wm _ _ _ _ L _ w h.blk h1 (by have := h.inv.few; omega)).mono ?_
  rintro e w' ⟨v, L', rfl, p1, p2, p3, p4, p5⟩
  obtain rfl := rise_of p1 p2 h1.nd (ws_rise h.inv) hm
  exact ⟨v, rfl, hl ▸ p3, p5.mono fun _ _ h => False.elim h, p4⟩
end Go.Proofs.YtcpgamidimfflaaGreat
namespace Go.Proofs.YtcpgamidimfflaaGreat
open Go.RowKit Go.My Go.Maps
set_option linter.unusedSimpArgs false
set_option linter.unusedVariables false
theorem lookT_snoc {did : List Od} {tr : List Rp} (hl : tr.length = did.length) (o : Od) (r : Rp) (k : Idk) : lookT (did ++ [o]) (tr ++ [r]) k = if k = o.id then some r else lookT did tr k := by
  unfold lookT
  have e1 : idsO (did ++ [o]) = idsO did ++ [o.id] := by unfold idsO; rw [List.map_append]; rfl
  rw [e1, posF_snoc]
  by_cases h : o.id = k
  · rw [if_pos h, if_pos h.symm, idsO_length, ← hl]
    show (tr ++ [r])[tr.length]? = some r
    rw [List.getElem?_append_right (Nat.le_refl _), Nat.sub_self]
    rfl
  · rw [if_neg h, if_neg (fun e => h e.symm)]
    cases hp : posF (idsO did) k with
    | none => rfl
    | some n =>
      have h1 := (posF_some hp).1
      rw [idsO_length] at h1
      show (tr ++ [r])[n]? = tr[n]?
      rw [List.getElem?_append_left (by omega)]
theorem wtF_put (wt : In2 → Bool) (i : In2) : updI (wtF wt) i (.agg #[]) = wtF fun j => decide (j = i) || wt j := by
  funext j
  unfold updI wtF
  by_cases h : j = i <;> simp [h]
theorem wtF_del (wt : In2 → Bool) (i : In2) : delI (wtF wt) i = wtF fun j => !decide (j = i) && wt j := by
  funext j
  unfold delI wtF
  by_cases h : j = i <;> simp [h]
theorem tdF_put {did : List Od} {tr : List Rp} (hl : tr.length = did.length) (o : Od) (r : Rp) : updI (fun k => (lookT did tr k).map Rp.val) o.id r.val = fun k => (lookT (did ++ [o]) (tr ++ [r]) k).map Rp.val := by
  funext k
  rw [lookT_snoc hl]
  unfold updI
  by_cases h : k = o.id
  · rw [if_pos h, if_pos h]; rfl
  · rw [if_neg h, if_neg h]
theorem KnT.put {w : World} {E : Nat → Prop} {f : Idk → Option Value} {get : In2 → Option En} (h : ∀ i, IdOk i → EnAt w E (get i) (f i)) {i : In2} {e : En} {v : Value} {A : Option Addr} {c : Nat} (he : EnS w E e v A c) :
    ∀ j, IdOk j → EnAt w E (if j = i then some e else get j) (updI f i (e.val v (.slice A e.deps.length c)) j) := fun j hj => by
  unfold updI
  by_cases hji : j = i
  · rw [if_pos hji, if_pos hji]
    exact ⟨v, A, c, rfl, he⟩
  · rw [if_neg hji, if_neg hji]
    exact h j hj
theorem td_mem {s : Ru} (hd : DiI s) {w : World} {m : Nat} {L : List Idk} (h : TabI Tryz.prog 32 w m L fun k => (lookT s.did s.tr k).map Rp.val) (x : Idk) : x ∈ L ↔ x ∈ idsO s.did := by
  rw [h.mem]
  show ((lookT s.did s.tr x).map Rp.val).isSome = true ↔ _
  rw [Option.isSome_map, hd.look, decide_eq_true_iff]
theorem td_len {s : Ru} (hd : DiI s) {w : World} {m : Nat} {L : List Idk} (h : TabI Tryz.prog 32 w m L fun k => (lookT s.did s.tr k).map Rp.val) : L.length ≤ 10000 := by
  have := (nodup_len h.nd fun x hx => (td_mem hd h x).1 hx).1
  rw [idsO_length] at this
  have := hd.few
  omega
theorem id_ok {o : Od} (h : o.ok) : IdOk o.id := ⟨h.1, h.2.1⟩
end Go.Proofs.YtcpgamidimfflaaGreat
namespace Go.Proofs.YtcpgamidimfflaaGreat
open Go.RowKit Go.My Go.Maps
set_option linter.unusedSimpArgs false
set_option linter.unusedVariables false
attribute [local go_sem ↓] Go.wp_at_zero Go.wp_at_succ
theorem right_legs6 {o : Od} (h : rightO o = true) : o.legs.length ≤ 6 := by
  have h1 : legsB o = true := by
    unfold rightO at h
    simp only [Bool.and_eq_true] at h
    exact h.2.2.2.2.2.2.1
  unfold legsB at h1
  split at h1
  · unfold rightB at h1
    simp only [Bool.and_eq_true, decide_eq_true_eq] at h1
    omega
  · rw [beq_iff_eq] at h1
    omega
theorem rnS0 {w : World} {p km wm tm : Nat} {q : Pl} (h0 : Blk w p 92 #[.map (some km), .map (some wm), .slice none 0 0, .map (some tm), .pointer (some ⟨q.p, 0, none⟩)])
    (h1 : TabI Tryz.prog 30 w km [] (fun _ => none)) (h2 : TabI Tryz.prog 30 w wm [] (fun _ => none)) (h3 : TabI Tryz.prog 32 w tm [] (fun _ => none)) (h4 : BkS w q bk0)
    (hn : km ≠ wm ∧ km ≠ tm ∧ wm ≠ tm ∧ ∀ k, q.all k → k ≠ km ∧ k ≠ wm ∧ k ≠ tm) : RnS w ⟨p, km, wm, tm, q, .slice none 0 0, fun _ => False⟩ ru0 where
  blk := h0
  kn := ⟨[], _, h1, fun i _ => rfl⟩
  wt := ⟨[], h2⟩
  ls := ⟨[], Own.nil _ _ _, ⟨rfl, fun i x hx => by simp [ru0] at hx⟩⟩
  td := ⟨[], h3⟩
  bk := h4
  lt := fun k h => h.elim
  ap := fun k h => h.elim
  ne := hn
  di := rui0.di
  inv := rui0
set_option maxRecDepth 100000 in
set_option maxHeartbeats 1000000 in
theorem rnew_any (w : World) : Calls Tryz.prog 10 #[] w (RetRn w ru0) := by
  have hmm := @run_makeMap Tryz.prog
  have hk : TabI Tryz.prog 30 (((w.alloc (.map #[] 0)).alloc (.map #[] 0)).alloc (.map #[] 0)) w.heap.size [] (fun _ => none) := (TabI.made w).fr ((((Fr.refl No _).alloc _).alloc _)) (fun h => h)
  have hm : TabI Tryz.prog 30 (((w.alloc (.map #[] 0)).alloc (.map #[] 0)).alloc (.map #[] 0)) (w.heap.size + 1) [] (fun _ => none) := by
    have := (TabI.made (P := Tryz.prog) (kt := 30) (w.alloc (.map #[] 0))).fr ((Fr.refl No _).alloc (.map #[] 0)) (fun h => h)
    rwa [World.size_alloc] at this
  have ht : TabI Tryz.prog 32 (((w.alloc (.map #[] 0)).alloc (.map #[] 0)).alloc (.map #[] 0)) (w.heap.size + 2) [] (fun _ => none) := by
    have := TabI.made (P := Tryz.prog) (kt := 32) ((w.alloc (.map #[] 0)).alloc (.map #[] 0))
    rwa [World.size_alloc, World.size_alloc] at this
  have hf0 : Fr No w (((w.alloc (.map #[] 0)).alloc (.map #[] 0)).alloc (.map #[] 0)) := (((Fr.refl _ _).alloc _).alloc _).alloc _
  have hsz : (((w.alloc (.map #[] 0)).alloc (.map #[] 0)).alloc (.map #[] 0)).heap.size = w.heap.size + 3 := by simp
  have HK := Lib.hid hk
  have HM := Lib.hid hm
  have HT := Lib.hid ht
  have HF0 := Lib.hid hf0
  have HSZ := Lib.hid hsz
  clear hk hm ht hf0 hsz
  go_enter Tryz.func10, Tryz.ntmps10
  go_wp2_with (go_at_call 40; (with_reducible refine (newB_any _).mono ?_); rintro _ w1 ⟨q, rfl, hb1, hf1, hq1⟩; have HB1 := Lib.hid hb1; have HF1 := Lib.hid hf1; have HQ1 := Lib.hid hq1; clear hb1 hf1 hq1)
  go_ret
  have hf2 : Fr No w1 (w1.alloc (.cells #[.map (some w.heap.size), .map (some (w.heap.size + 1)), .slice none 0 0, .map (some (w.heap.size + 2)), .pointer (some ⟨q.p, 0, none⟩)] 92)) := (Fr.refl _ _).alloc _
  have h13 := HF1.out.trans hf2
  have hs1 := HF1.out.size
  have e3 := HSZ.out
  have hq : ∀ k, q.all k → w.heap.size + 3 ≤ k := fun k hk => by have := HQ1.out k hk; omega
  refine ⟨⟨w1.heap.size, w.heap.size, w.heap.size + 1, w.heap.size + 2, q, .slice none 0 0, fun _ => False⟩, rfl, rnS0 (Blk.new _ _ _) (HK.out.fr h13 (fun h => h)) (HM.out.fr h13 (fun h => h)) (HT.out.fr h13 (fun h => h)) (HB1.out.no hf2) ⟨by omega, by omega, by omega, fun k hk => by have := hq k hk; omega⟩, HF0.out.trans h13, fun k hk => ?_⟩
  rcases hk with (hk | hk | hk | hk | hk | hk) | hk
  · have hk : k = w1.heap.size := hk
    omega
  · have hk : k = w.heap.size := hk
    omega
  · have hk : k = w.heap.size + 1 := hk
    omega
  · have hk : k = w.heap.size + 2 := hk
    omega
  · have := hq k hk
    omega
  · cases hk
  · exact hk.elim
set_option maxRecDepth 100000 in
set_option maxHeartbeats 1000000 in
theorem rlist_any (w : World) (r : Pr) (s : Ru) (h : RnM w r s) : Calls Tryz.prog 23 #[.pointer (some ⟨r.p, 0, none⟩)] w (RetN w s.did) := by
  have hls := h.ls
  have hdi := h.di
  have hlt := h.lt
  have c0 := h.blk.cell 2
  simp only [List.getElem?_toArray, List.getElem?_cons_zero, List.getElem?_cons_succ] at c0
  clear h
  obtain ⟨p, km, wm, tm, q, lv, E⟩ := r
  simp only at *
  obtain ⟨cells, ho, _⟩ := id hls
  obtain ⟨A, c, rfl, -, -⟩ := ho.form
  have HC := Lib.hid (copyAll_any w _ A c s.did (hls.ods hlt) (by have := hdi.few; omega) (fun o ho => by have := right_legs6 (hdi.dok o ho).2; omega))
  clear hls hdi hlt ho
  go_enter Tryz.func23, Tryz.ntmps23
  go_wp2_with (go_at_call 60; (with_reducible refine HC.out.mono ?_); rintro _ w1 ⟨A1, c1, rfl, h1⟩; have H1 := Lib.hid h1; clear h1)
  go_ret
  exact ⟨A1, c1, rfl, H1.out⟩
end Go.Proofs.YtcpgamidimfflaaGreat
namespace Go.Proofs.YtcpgamidimfflaaGreat
open Go.RowKit Go.My Go.Maps
set_option linter.unusedSimpArgs false
set_option linter.unusedVariables false
attribute [local go_sem ↓] Go.wp_at_zero Go.wp_at_succ
theorem zeroRp (w : World) : (zeroValue 50).run Tryz.prog w = .ok (.agg #[.int .i64 0, .int .i64 0, .int .i64 0, .int .i64 0]) w := by kernel_rfl
theorem TdT.look {w : World} {m : Nat} {did : List Od} {tr : List Rp} (h : TdT w m did tr) (k : Idk) (hk : IdOk k) :
    (Instr.lookup 90 (.map (some m)) (.agg #[.int .i64 k.1, .int .i64 k.2]) true).run Tryz.prog w = .ok (.tuple #[((lookT did tr k).getD ⟨0, 0, 0, 0⟩).val, .bool (lookT did tr k).isSome]) w := by
  obtain ⟨L, h⟩ := h
  rw [h.look_ok keyId Tryz.underlying90 (zeroRp w) k hk]
  cases lookT did tr k <;> rfl
end Go.Proofs.YtcpgamidimfflaaGreat
namespace Go.Proofs.YtcpgamidimfflaaGreat
open Go.RowKit Go.My Go.Maps
set_option linter.unusedSimpArgs false
set_option linter.unusedVariables false
attribute [local go_sem ↓] Go.wp_at_zero Go.wp_at_succ
def ddC (d : Dd) : List Value := [.int .i64 d.i.1, .int .i64 d.i.2, .int .i64 d.id.1, .int .i64 d.id.2, .int .i64 d.r.err, .int .i64 d.r.hv, .int .i64 d.r.st, .int .i64 d.r.num, .bool d.ag]
theorem Ru.exD_some {s : Ru} {i : In2} {o : Od} {r : Rp} (h : lookT s.did s.tr o.id = some r) : s.exD i o = ⟨i, o.id, r, true⟩ ∧ s.exO o = s := by
  unfold Ru.exD Ru.exO
  rw [h]
  exact ⟨rfl, rfl⟩
theorem Ru.exD_none {s : Ru} {i : In2} {o : Od} (h : lookT s.did s.tr o.id = none) : s.exD i o = ⟨i, o.id, doR s.b o, false⟩ ∧ s.exO o = { s with did := s.did ++ [o], tr := s.tr ++ [doR s.b o], b := doB s.b o } := by
  unfold Ru.exD Ru.exO
  rw [h]
  exact ⟨rfl, rfl⟩
set_option maxRecDepth 100000 in
set_option maxHeartbeats 2000000 in
theorem exec_again (w : World) (r : Pr) (s : Ru) (i : In2) (o : Od) (A : Option Addr) (n c : Nat) (x : Rp) (h : RnM w r s) (ho : IdOk o.id) (hx : lookT s.did s.tr o.id = some x) :
    Calls Tryz.prog 55 #[.pointer (some ⟨r.p, 0, none⟩), .agg #[.int .i64 i.1, .int .i64 i.2], o.val (.slice A n c)] w fun e w' => e = .returned (.agg (ddC ⟨i, o.id, x, true⟩).toArray) ∧ Fr No w w' := by
  have hl := fun (W : World) (hW : Fr No w W) => (h.td.fr hW (fun h => h)).look o.id ho
  rw [hx] at hl
  have HB := Lib.hid h.blk
  clear h ho hx
  obtain ⟨re, rh, rs, rn⟩ := x
  obtain ⟨i1, i2⟩ := i
  obtain ⟨ocl, osq, okd, oac, ope, osm, olg, opr, ohd, ont⟩ := o
  unfold Od.val Od.cs Od.id at *
  unfold Rp.val at hl
  unfold ddC
  simp only [Option.getD_some, Option.isSome_some] at hl ⊢
  have hfa : Fr No w (((w.alloc (.cells #[.int .i64 i1, .int .i64 i2] 30)).alloc (.cells #[.int .i64 ocl, .int .i64 osq, .int .i64 okd, .string oac, .string ope, .int .i64 osm, .slice A n c, .int .i64 opr, .int .i64 ohd, .string ont] 35)).alloc (.cells #[.int .i64 0, .int .i64 0, .int .i64 0, .int .i64 0, .int .i64 0, .int .i64 0, .int .i64 0, .int .i64 0, .bool false] 82)) := (((Fr.refl _ _).alloc _).alloc _).alloc _
  have hb0 := ((Blk.new w 30 #[.int .i64 i1, .int .i64 i2]).alloc (.cells #[.int .i64 ocl, .int .i64 osq, .int .i64 okd, .string oac, .string ope, .int .i64 osm, .slice A n c, .int .i64 opr, .int .i64 ohd, .string ont] 35)).alloc (.cells #[.int .i64 0, .int .i64 0, .int .i64 0, .int .i64 0, .int .i64 0, .int .i64 0, .int .i64 0, .int .i64 0, .bool false] 82)
  have hb1 := (Blk.new (w.alloc (.cells #[.int .i64 i1, .int .i64 i2] 30)) 35 #[.int .i64 ocl, .int .i64 osq, .int .i64 okd, .string oac, .string ope, .int .i64 osm, .slice A n c, .int .i64 opr, .int .i64 ohd, .string ont]).alloc (.cells #[.int .i64 0, .int .i64 0, .int .i64 0, .int .i64 0, .int .i64 0, .int .i64 0, .int .i64 0, .int .i64 0, .bool false] 82)
  have hb2 := Blk.new ((w.alloc (.cells #[.int .i64 i1, .int .i64 i2] 30)).alloc (.cells #[.int .i64 ocl, .int .i64 osq, .int .i64 okd, .string oac, .string ope, .int .i64 osm, .slice A n c, .int .i64 opr, .int .i64 ohd, .string ont] 35)) 82 #[.int .i64 0, .int .i64 0, .int .i64 0, .int .i64 0, .int .i64 0, .int .i64 0, .int .i64 0, .int .i64 0, .bool false]
  rw [World.size_alloc] at hb1
  rw [World.size_alloc, World.size_alloc] at hb2
  go_enter Tryz.func55, Tryz.ntmps55
  go_upto_region 1 with (fail)
  generalize (((w.alloc (.cells #[.int .i64 i1, .int .i64 i2] 30)).alloc (.cells #[.int .i64 ocl, .int .i64 osq, .int .i64 okd, .string oac, .string ope, .int .i64 osm, .slice A n c, .int .i64 opr, .int .i64 ohd, .string ont] 35)).alloc (.cells #[.int .i64 0, .int .i64 0, .int .i64 0, .int .i64 0, .int .i64 0, .int .i64 0, .int .i64 0, .int .i64 0, .bool false] 82)) = w2 at *
  have HX : Hid (∀ W, Fr No w2 W → Fr No w2 W ∧ W.cell? ⟨r.p, 3, none⟩ = some (.map (some r.tm)) ∧ W.cell? ⟨w.heap.size + 1, 0, none⟩ = some (.int .i64 ocl) ∧ W.cell? ⟨w.heap.size + 1, 1, none⟩ = some (.int .i64 osq) ∧
      (Instr.lookup 90 (.map (some r.tm)) (.agg #[.int .i64 ocl, .int .i64 osq]) true).run Tryz.prog W = .ok (.tuple #[.agg #[.int .i64 re, .int .i64 rh, .int .i64 rs, .int .i64 rn], .bool true]) W) := Lib.hid fun W hW => by
    have h1 := (HB.out.fr (hfa.trans hW) (fun h => h))
    have h2 := hb1.fr hW (fun h => h)
    exact ⟨hW, h1.cell 3, h2.cell 0, h2.cell 1, hl W (hfa.trans hW)⟩
  have HFA := Lib.hid hfa
  have HB0 := Lib.hid hb0
  have HB1 := Lib.hid hb1
  have HB2 := Lib.hid hb2
  clear hl hfa hb0 hb1 hb2
  have hk0 : Fr No w2 w2.drew := (Fr.refl _ w2).drew
  have hz := (Blk.new w2 50 #[.int .i64 0, .int .i64 0, .int .i64 0, .int .i64 0]).fr (S := No) (w' := (w2.alloc (.cells #[.int .i64 0, .int .i64 0, .int .i64 0, .int .i64 0] 50)).drew) (Fr.drew (Fr.refl _ _)) (fun h => h)
  have z0 := hz.cell 0
  have y0 := hz.frozen 0
  have z1 := hz.cell 1
  have y1 := hz.frozen 1
  have z2 := hz.cell 2
  have y2 := hz.frozen 2
  have z3 := hz.cell 3
  have y3 := hz.frozen 3
  simp only [List.getElem?_toArray, List.getElem?_cons_zero, List.getElem?_cons_succ] at z0 z1 z2 z3
  clear hz
  go_region_held3 (fun W => Fr No w2 W ∧ W.cell? ⟨r.p, 3, none⟩ = some (.map (some r.tm)) ∧ W.cell? ⟨w.heap.size + 1, 0, none⟩ = some (.int .i64 ocl) ∧ W.cell? ⟨w.heap.size + 1, 1, none⟩ = some (.int .i64 osq) ∧
      (Instr.lookup 90 (.map (some r.tm)) (.agg #[.int .i64 ocl, .int .i64 osq]) true).run Tryz.prog W = .ok (.tuple #[.agg #[.int .i64 re, .int .i64 rh, .int .i64 rs, .int .i64 rn], .bool true]) W)
    (first
      | (with_reducible refine HX.out _ ?_; with_reducible assumption)
      | (with_reducible refine HX.out _ ?_; exact Fr.drew ((Fr.refl _ _).alloc _))
      | (with_reducible refine HX.out _ ?_; exact Fr.trans' (Fr.drew ((Fr.refl _ _).alloc _)) (fr_set4 _ _ _ _ _ _) (fun i hi hlt => by have : i = w2.heap.size := hi; omega)))
    (fail)
  all_goals
    have hF4 : Fr No w2 (w2.alloc (.cells #[.int .i64 re, .int .i64 rh, .int .i64 rs, .int .i64 rn] 50)).drew := Fr.drew ((Fr.refl _ _).alloc _)
    have hy := (Blk.new w2 50 #[.int .i64 re, .int .i64 rh, .int .i64 rs, .int .i64 rn]).fr (S := No) (w' := (w2.alloc (.cells #[.int .i64 re, .int .i64 rh, .int .i64 rs, .int .i64 rn] 50)).drew) (Fr.drew (Fr.refl _ _)) (fun h => h)
    have h0 := HB0.out.fr hF4 (fun h => h)
    have h1 := HB1.out.fr hF4 (fun h => h)
    have h2 := HB2.out.fr hF4 (fun h => h)
    have HD := Lib.hid (h2.set_ 0 (.int .i64 i1) |>.set_ 1 (.int .i64 i2) |>.set_ 2 (.int .i64 ocl) |>.set_ 3 (.int .i64 osq) |>.set_ 4 (.int .i64 re) |>.set_ 5 (.int .i64 rh) |>.set_ 6 (.int .i64 rs) |>.set_ 7 (.int .i64 rn) |>.set_ 8 (.bool true))
    have HFE : Hid (Fr No w (w2.alloc (.cells #[.int .i64 re, .int .i64 rh, .int .i64 rs, .int .i64 rn] 50)).drew) := Lib.hid (HFA.out.trans hF4)
    have q0 := hy.cell 0
    have q1 := hy.cell 1
    have q2 := hy.cell 2
    have q3 := hy.cell 3
    have p0 := h0.cell 0
    have p1 := h0.cell 1
    have o0 := h1.cell 0
    have o1 := h1.cell 1
    have v0 := h2.cell 0
    have v1 := h2.cell 1
    have v2 := h2.cell 2
    have v3 := h2.cell 3
    have v4 := h2.cell 4
    have v5 := h2.cell 5
    have v6 := h2.cell 6
    have v7 := h2.cell 7
    have v8 := h2.cell 8
    have u0 := h2.frozen 0
    have u1 := h2.frozen 1
    have u2 := h2.frozen 2
    have u3 := h2.frozen 3
    have u4 := h2.frozen 4
    have u5 := h2.frozen 5
    have u6 := h2.frozen 6
    have u7 := h2.frozen 7
    have u8 := h2.frozen 8
    simp only [List.getElem?_toArray, List.getElem?_cons_zero, List.getElem?_cons_succ] at q0 q1 q2 q3 p0 p1 o0 o1 v0 v1 v2 v3 v4 v5 v6 v7 v8
    clear hy h0 h1 h2 hF4 z0 z1 z2 z3 y0 y1 y2 y3 HX
    generalize (w2.alloc (.cells #[.int .i64 re, .int .i64 rh, .int .i64 rs, .int .i64 rn] 50)).drew = w4 at *
    go_wp2
    have hd := HD.out
    simp only [List.setIfInBounds_toArray, List.set_cons_zero, List.set_cons_succ] at hd
    have d0 := hd.cell 0
    have d1 := hd.cell 1
    have d2 := hd.cell 2
    have d3 := hd.cell 3
    have d4 := hd.cell 4
    have d5 := hd.cell 5
    have d6 := hd.cell 6
    have d7 := hd.cell 7
    have d8 := hd.cell 8
    simp only [List.getElem?_toArray, List.getElem?_cons_zero, List.getElem?_cons_succ] at d0 d1 d2 d3 d4 d5 d6 d7 d8
    refine bodyPost_ret (v := .agg #[.int .i64 i1, .int .i64 i2, .int .i64 ocl, .int .i64 osq, .int .i64 re, .int .i64 rh, .int .i64 rs, .int .i64 rn, .bool true]) (by simp [results, Tryz.results55, go_sem, d0, d1, d2, d3, d4, d5, d6, d7, d8]) rfl ?_
    exact ⟨rfl, HFE.out.trans' (((((((((fr_set _ _ _ _).trans (fr_set _ _ _ _)).trans (fr_set _ _ _ _)).trans (fr_set _ _ _ _)).trans (fr_set _ _ _ _)).trans (fr_set _ _ _ _)).trans (fr_set _ _ _ _)).trans (fr_set _ _ _ _)).trans (fr_set _ _ _ _)) (fun i hi hlt => by have : i = w.heap.size + 2 := hi; omega)⟩
end Go.Proofs.YtcpgamidimfflaaGreat
