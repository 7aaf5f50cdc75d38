/- Words for memory that all proofs of this project share: frames, slices that read as lists, rows of the call's own, append. Of no program. More words for memory. Of no program. How the arguments of a law read: of no program. What walks of this project hand back. Of no package. What package coins answers, as functions: of no program. -/
import Derived.WalkKit
import Derived.ProofKit
import Derived.OpenShut
import Derived.WalkSpells
import Derived.WalkLawsBesides
import Derived.BigQuiet
import Derived.Deep.QuietTactic
import Derived.Lib.Hide
import Derived.Lib.AppendStr
import Derived.Maps.AppendAt
import Derived.Laws.CopyOwn
import Derived.Deep.AppendLies
import Derived.ChangeOld
import Derived.ShutString
import Derived.SliceStrings
import Derived.Deep.Slices
import Derived.SizedLaws
import Derived.Test.YtcpgamidimfflaaGreatChecked
import Derived.IntWalk
import Derived.RowKit
set_option linter.unusedSimpArgs false
set_option linter.unusedVariables false
namespace Go.My
open Go.RowKit
structure Fr (S : Nat → Prop) (w w' : World) : Prop where
  os : w'.os = w.os
  tape : w'.tape = w.tape
  output : w'.output = w.output
  size : w.heap.size ≤ w'.heap.size
  block : ∀ k, k < w.heap.size → ¬ S k → w'.heap[k]? = w.heap[k]?
def No : Nat → Prop := fun _ => False
def At1 (p : Nat) : Nat → Prop := fun k => k = p
def AtO (g : Option Nat) : Nat → Prop := fun k => g = some k
def At2 (p : Nat) (g : Option Nat) : Nat → Prop := fun k => k = p ∨ g = some k
section
variable {S T : Nat → Prop} {w w' a b c : World}
theorem Fr.refl (S : Nat → Prop) (w : World) : Fr S w w := ⟨rfl, rfl, rfl, Nat.le_refl _, fun _ _ _ => rfl⟩
theorem Fr.mono (h : Fr S w w') (hs : ∀ k, k < w.heap.size → S k → T k) : Fr T w w' :=
  ⟨h.os, h.tape, h.output, h.size, fun k hk hn => h.block k hk (fun hs' => hn (hs k hk hs'))⟩
theorem Fr.trans (h : Fr S a b) (k : Fr S b c) : Fr S a c :=
  ⟨k.os.trans h.os, k.tape.trans h.tape, k.output.trans h.output, Nat.le_trans h.size k.size,
    fun i hi hn => (k.block i (Nat.lt_of_lt_of_le hi h.size) hn).trans (h.block i hi hn)⟩
theorem Fr.trans' (h : Fr S a b) (k : Fr T b c) (ht : ∀ i, T i → i < a.heap.size → S i) : Fr S a c :=
  ⟨k.os.trans h.os, k.tape.trans h.tape, k.output.trans h.output, Nat.le_trans h.size k.size,
    fun i hi hn => (k.block i (Nat.lt_of_lt_of_le hi h.size) (fun hT => hn (ht i hT hi))).trans (h.block i hi hn)⟩
theorem Fr.of_below (h : Below w.heap.size w w') (S : Nat → Prop) : Fr S w w' := ⟨h.os, h.tape, h.output, h.size, fun k hk _ => h.block k hk⟩
theorem Fr.below (h : Fr S w w') (hs : ∀ k, k < w.heap.size → ¬ S k) : Below w.heap.size w w' := ⟨h.os, h.tape, h.output, h.size, fun k hk => h.block k hk (hs k hk)⟩
theorem Fr.belowNo (h : Fr No w w') : Below w.heap.size w w' := h.below fun _ _ h => h
theorem Fr.drew (h : Fr S a w) : Fr S a w.drew := ⟨h.os, h.tape, h.output, h.size, h.block⟩
theorem Fr.drewN (h : Fr S a w) (n : Nat) : Fr S a (w.drewN n) := ⟨h.os, h.tape, h.output, h.size, h.block⟩
theorem Fr.alloc (h : Fr S a w) (o : Obj) : Fr S a (w.alloc o) :=
  ⟨h.os, h.tape, h.output, Nat.le_trans h.size (by simp), fun i hi hne => (Below.heap_alloc w o i (Nat.lt_of_lt_of_le hi h.size)).trans (h.block i hi hne)⟩
theorem Fr.setCell (h : Fr S a w) {p : Addr} (hp : p.block < a.heap.size → S p.block) (u : Value) : Fr S a (w.setCell p u) :=
  ⟨h.os, h.tape, h.output, by simpa [World.setCell] using h.size, fun i hi hne => (Below.heap_setCell w p u i (by
    rintro rfl
    exact hne (hp hi))).trans (h.block i hi hne)⟩
theorem Fr.setRow (h : Fr S a w) {g : Nat} (hp : g < a.heap.size → S g) (cs : Array Value) : Fr S a (w.setRow g cs) :=
  ⟨h.os, h.tape, h.output, by simpa [World.setRow] using h.size, fun i hi hne => (setRow_other w g i _ (by
    rintro rfl
    exact hne (hp hi))).trans (h.block i hi hne)⟩
theorem fr_set (w : World) (p i : Nat) (u : Value) : Fr (At1 p) w (w.setCell ⟨p, i, none⟩ u) := Fr.setCell (S := At1 p) (p := ⟨p, i, none⟩) (Fr.refl (At1 p) w) (fun _ => rfl) u
theorem Fr.cell (h : Fr S w w') {p : Addr} (hp : p.block < w.heap.size) (hn : ¬ S p.block) : w'.cell? p = w.cell? p := World.cell?_of_block (w := w) (h.block p.block hp hn)
theorem Fr.cell_some (h : Fr S w w') {p : Addr} {v : Value} (hv : w.cell? p = some v) (hn : ¬ S p.block) : w'.cell? p = some v := (h.cell (World.block_lt_of_cell? w p hv) hn).trans hv
end
theorem add_zero (p i : Nat) : (⟨p, 0, none⟩ : Addr).add i = ⟨p, i, none⟩ := by unfold Addr.add; split <;> simp_all
theorem block_of_add (a : Addr) (n : Nat) : (a.add n).block = a.block := by unfold Addr.add; split <;> rfl
theorem add_of_add (a : Addr) (i j : Nat) : (a.add i).add j = a.add (i + j) := by
  unfold Addr.add
  by_cases hi : i = 0 <;> by_cases hj : j = 0 <;> simp [hi, hj, Nat.add_assoc]
def Blk (w : World) (g : Nat) (t : TypeId) (cs : Array Value) : Prop := w.heap[g]? = some (.cells cs t (0, 0))
section
variable {w w' : World} {g : Nat} {t : TypeId} {cs : Array Value}
theorem Blk.lt (h : Blk w g t cs) : g < w.heap.size := by
  rcases Nat.lt_or_ge g w.heap.size with hlt | hge
  · exact hlt
  · unfold Blk at h; rw [Array.getElem?_eq_none hge] at h; cases h
theorem Blk.cell (h : Blk w g t cs) (i : Nat) : w.cell? ⟨g, i, none⟩ = cs[i]? := cell_of_row w g i cs t (0, 0) h
theorem Blk.frozen (h : Blk w g t cs) (i : Nat) : w.frozen? ⟨g, i, none⟩ = false := by
  unfold Blk at h
  simp [World.frozen?, h]
theorem Blk.new (w : World) (t : TypeId) (cs : Array Value) : Blk (w.alloc (.cells cs t)) w.heap.size t cs := heap_alloc_new w _
theorem Blk.drew (h : Blk w g t cs) : Blk w.drew g t cs := h
theorem Blk.drewN (h : Blk w g t cs) (n : Nat) : Blk (w.drewN n) g t cs := h
theorem Blk.alloc (h : Blk w g t cs) (o : Obj) : Blk (w.alloc o) g t cs := (Below.heap_alloc w o g h.lt).trans h
theorem Blk.set_ (h : Blk w g t cs) (i : Nat) (u : Value) : Blk (w.setCell ⟨g, i, none⟩ u) g t (cs.setIfInBounds i u) := by
  unfold Blk at h ⊢
  simp [World.setCell, Array.getElem?_modify, h]
theorem Blk.far (h : Blk w g t cs) {p : Addr} (hp : g ≠ p.block) (u : Value) : Blk (w.setCell p u) g t cs := (Below.heap_setCell w p u g hp).trans h
theorem Blk.fr {S : Nat → Prop} (h : Blk w g t cs) (hf : Fr S w w') (hn : ¬ S g) : Blk w' g t cs := (hf.block g h.lt hn).trans h
theorem Blk.below {B : Nat} (h : Blk w g t cs) (hb : Below B w w') (hg : g < B) : Blk w' g t cs := (hb.block g hg).trans h
theorem Blk.ne_ {g' : Nat} {t' : TypeId} {cs' : Array Value} (h : Blk w g t cs) (h' : Blk w g' t' cs') (hne : t ≠ t') : g ≠ g' := by
  rintro rfl
  unfold Blk at h h'
  rw [h] at h'
  injection h' with h'
  injection h' with _ ht
  exact hne ht
end
def Rd (w : World) (F : Nat → Prop) (size : Nat) (A : Option Addr) (n : Nat) (xs : List Value) : Prop :=
  xs.length = n * size ∧ (0 < n → ∃ ad, A = some ad ∧ F ad.block ∧ ∀ j u, xs[j]? = some u → w.cell? (ad.add j) = some u)
section
variable {w w' : World} {F G : Nat → Prop} {size n : Nat} {A : Option Addr} {xs : List Value}
theorem Rd.none_ : Rd w F size A 0 [] := ⟨by simp, fun h => absurd h (by omega)⟩
theorem Rd.at_ {k : Nat} (h : Rd w F 1 A n xs) (hk : k < n) : ∃ ad u, A = some ad ∧ F ad.block ∧ xs[k]? = some u ∧ w.cell? (ad.add k) = some u := by
  obtain ⟨ad, e, hb, hc⟩ := h.2 (by omega)
  have hl : k < xs.length := by have := h.1; omega
  exact ⟨ad, xs[k], e, hb, List.getElem?_eq_getElem hl, hc k _ (List.getElem?_eq_getElem hl)⟩
theorem Rd.keep (h : Rd w F size A n xs) (hk : ∀ p : Addr, F p.block → w'.cell? p = w.cell? p) : Rd w' F size A n xs :=
  ⟨h.1, fun hn => by
    obtain ⟨ad, e, hb, hc⟩ := h.2 hn
    exact ⟨ad, e, hb, fun j u hu => (hk _ (by rw [block_of_add]; exact hb)).trans (hc j u hu)⟩⟩
theorem Rd.more (h : Rd w F size A n xs) (hB : ∀ k, F k → G k) : Rd w G size A n xs :=
  ⟨h.1, fun hn => by
    obtain ⟨ad, e, hb, hc⟩ := h.2 hn
    exact ⟨ad, e, hB _ hb, hc⟩⟩
theorem Rd.lt (h : Rd w F size A n xs) (hs : 0 < size) : Rd w (fun k => F k ∧ k < w.heap.size) size A n xs :=
  ⟨h.1, fun hn => by
    obtain ⟨ad, e, hb, hc⟩ := h.2 hn
    refine ⟨ad, e, ⟨hb, ?_⟩, hc⟩
    have hl : 0 < xs.length := by rw [h.1]; exact Nat.mul_pos hn hs
    have h0 := hc 0 _ (List.getElem?_eq_getElem hl)
    have := World.block_lt_of_cell? w _ h0
    rwa [block_of_add] at this⟩
theorem Rd.fr {S : Nat → Prop} (h : Rd w F size A n xs) (hs : 0 < size) (hf : Fr S w w') (hn : ∀ k, F k → k < w.heap.size → ¬ S k) : Rd w' F size A n xs := by
  have h1 := (h.lt hs).keep (w' := w') fun p hp => hf.cell hp.2 (hn _ hp.1 hp.2)
  exact h1.more fun _ hk => hk.1
theorem Rd.below {B : Nat} (h : Rd w F size A n xs) (hb : Below B w w') (hF : ∀ k, F k → k < B) : Rd w' F size A n xs := h.keep fun _ hp => hb.cell (hF _ hp)
theorem Rd.drewN (h : Rd w F size A n xs) (k : Nat) : Rd (w.drewN k) F size A n xs := h
theorem Rd.cut (h : Rd w F size A n xs) {k cap : Nat} (hk : k ≤ n) (hc : n ≤ cap) :
    Rd w F size (if cap = k then A else A.map (·.add (k * size))) (n - k) (xs.drop (k * size)) := by
  refine ⟨by rw [List.length_drop, h.1, Nat.sub_mul], fun hn => ?_⟩
  obtain ⟨ad, rfl, hb, hcell⟩ := h.2 (by omega)
  rw [if_neg (by omega)]
  refine ⟨ad.add (k * size), rfl, by rw [block_of_add]; exact hb, fun j u hu => ?_⟩
  rw [add_of_add]
  exact hcell _ u (by rw [← hu, List.getElem?_drop])
theorem Rd.take (h : Rd w F size A n xs) {k : Nat} (hk : k ≤ n) : Rd w F size A k (xs.take (k * size)) := by
  refine ⟨by rw [List.length_take, h.1]; exact Nat.min_eq_left (Nat.mul_le_mul_right _ hk), fun hn => ?_⟩
  obtain ⟨ad, rfl, hb, hcell⟩ := h.2 (by omega)
  refine ⟨ad, rfl, hb, fun j u hu => ?_⟩
  rw [List.getElem?_take] at hu
  split at hu
  · exact hcell j u hu
  · cases hu
end
structure El (P : Program) (t e : TypeId) (size bytes : Nat) : Prop where
  und : P.underlying t = some (.slice e)
  info : ∃ i z, P.info? e = some i ∧ i.zero = some z ∧ i.size = size ∧ i.bytes = bytes ∧ z.cells.size = size
  pos : 0 < size
def Own (w : World) (e : TypeId) (size : Nat) (v : Value) (n : Nat) (xs : List Value) : Prop :=
  xs.length = n * size ∧
  ((v = .slice none 0 0 ∧ n = 0) ∨
   ∃ g cap cur, v = .slice (some ⟨g, 0, none⟩) n cap ∧ w.heap[g]? = some (.cells cur e (0, 0)) ∧ n ≤ cap ∧ cap ≤ maxLen ∧ cap * size ≤ cur.size ∧ cur.toList.take (n * size) = xs)
section
variable {w w' : World} {e : TypeId} {size n : Nat} {v : Value} {xs : List Value}
theorem Own.nil (w : World) (e : TypeId) (size : Nat) : Own w e size (.slice none 0 0) 0 [] := ⟨by simp, .inl ⟨rfl, rfl⟩⟩
theorem Own.lt (h : Own w e size v n xs) : ∀ k, v.ownBlock = some k → k < w.heap.size := by
  intro k hk
  rcases h.2 with ⟨rfl, _⟩ | ⟨g, cap, cur, rfl, hg, _⟩
  · simp [Value.ownBlock] at hk
  · simp [Value.ownBlock] at hk
    subst hk
    exact (Array.getElem?_eq_some_iff.1 hg).1
theorem Own.blk (h : Own w e size v n xs) : ∀ k, v.ownBlock = some k → ∃ cur, Blk w k e cur := by
  intro k hk
  rcases h.2 with ⟨rfl, _⟩ | ⟨g, cap, cur, rfl, hg, _⟩
  · simp [Value.ownBlock] at hk
  · simp [Value.ownBlock] at hk
    subst hk
    exact ⟨cur, hg⟩
theorem Own.keep (h : Own w e size v n xs) (hk : ∀ k, v.ownBlock = some k → w'.heap[k]? = w.heap[k]?) : Own w' e size v n xs := by
  refine ⟨h.1, ?_⟩
  rcases h.2 with h0 | ⟨g, cap, cur, rfl, hg, r⟩
  · exact .inl h0
  · exact .inr ⟨g, cap, cur, rfl, by rw [hk g rfl]; exact hg, r⟩
theorem Own.fr {S : Nat → Prop} (h : Own w e size v n xs) (hf : Fr S w w') (hn : ∀ k, v.ownBlock = some k → ¬ S k) : Own w' e size v n xs :=
  h.keep fun k hk => hf.block k (h.lt k hk) (hn k hk)
theorem Own.below {B : Nat} (h : Own w e size v n xs) (hf : Below B w w') (hn : ∀ k, v.ownBlock = some k → k < B) : Own w' e size v n xs :=
  h.keep fun k hk => hf.block k (hn k hk)
theorem Own.alloc (h : Own w e size v n xs) (o : Obj) : Own (w.alloc o) e size v n xs := h.keep fun k hk => Below.heap_alloc w o k (h.lt k hk)
theorem Own.drew (h : Own w e size v n xs) : Own w.drew e size v n xs := h
theorem Own.drewN (h : Own w e size v n xs) (k : Nat) : Own (w.drewN k) e size v n xs := h
theorem Own.setCell (h : Own w e size v n xs) {p : Addr} (hp : v.ownBlock ≠ some p.block) (u : Value) : Own (w.setCell p u) e size v n xs :=
  h.keep fun k hk => Below.heap_setCell w p u k (by rintro rfl; exact hp hk)
theorem Own.ne_ (h : Own w e size v n xs) {g : Nat} {t : TypeId} {cs : Array Value} (hg : Blk w g t cs) (hne : e ≠ t) : v.ownBlock ≠ some g := by
  intro hk
  obtain ⟨cur, hc⟩ := h.blk g hk
  exact Blk.ne_ (t := e) hc hg hne rfl
theorem Own.form (h : Own w e size v n xs) : ∃ A c, v = .slice A n c ∧ n ≤ c ∧ c ≤ maxLen := by
  rcases h.2 with ⟨rfl, rfl⟩ | ⟨g, cap, cur, rfl, _, hn, hm, _⟩
  · exact ⟨_, _, rfl, Nat.le_refl _, Nat.zero_le _⟩
  · exact ⟨_, _, rfl, hn, hm⟩
theorem Own.rd {A : Option Addr} {m c : Nat} (h : Own w e size (.slice A m c) n xs) : Rd w (fun k => (Value.slice A m c).ownBlock = some k) size A n xs := by
  refine ⟨h.1, fun hn => ?_⟩
  rcases h.2 with ⟨_, h0⟩ | ⟨g, cap, cur, hv, hg, hle, _, hs, ht⟩
  · omega
  · injection hv with hA hm hc
    subst hA
    refine ⟨_, rfl, rfl, fun j u hu => ?_⟩
    rw [add_zero, cell_of_row w g j cur e (0, 0) hg]
    rw [← ht, List.getElem?_take] at hu
    split at hu
    · simpa using hu
    · cases hu
end
def Src (P : Program) (w : World) (size : Nat) (u : TypeId) (x : Value) (m : Nat) (news : List Value) : Prop :=
  news.length = m * size ∧ (∀ y ∈ news, y.oneCell' = true) ∧
  ((∃ A c F, x = .slice A m c ∧ Rd w F size A m news ∧ ∃ e, P.underlying u = some (.slice e)) ∨
   (size = 1 ∧ P.underlying u = some .string ∧ ∃ s : ByteArray, x = .string s ∧ m = s.size ∧ news = Lib.strCells s))
section
variable {P : Program} (w : World)
theorem Src.run {w : World} {size : Nat} {u : TypeId} {x : Value} {m : Nat} {news : List Value} (h : Src P w size u x m news) (w' : World) (hw : w'.heap = w.heap) :
    (Builtin.lenOf x).run P w' = .ok m w' ∧ (Builtin.firstCells size m x).run P w' = .ok news.toArray w' := by
  obtain ⟨hl, _, h | h⟩ := h
  · obtain ⟨A, c, F, rfl, hr, _⟩ := h
    refine ⟨by simp [Builtin.lenOf], ?_⟩
    rcases A with _ | ad
    · have hm : m = 0 := by
        rcases Nat.eq_zero_or_pos m with h0 | h0
        · exact h0
        · obtain ⟨ad, h, _⟩ := hr.2 h0
          cases h
      subst hm
      have : news = [] := List.eq_nil_of_length_eq_zero (by simpa using hl)
      subst this
      simp [Builtin.firstCells]
    · refine run_firstCells_some (P := P) w' size m ad m c news hl ?_
      intro j y hy
      have hc : w'.cell? (ad.add j) = w.cell? (ad.add j) := by simp [World.cell?, hw]
      rw [hc]
      rcases Nat.eq_zero_or_pos m with h0 | h0
      · subst h0
        have : news = [] := List.eq_nil_of_length_eq_zero (by simpa using hl)
        subst this
        simp at hy
      · obtain ⟨ad', h, _, hc⟩ := hr.2 h0
        injection h with h
        subst h
        exact hc j y hy
  · obtain ⟨rfl, _, s, rfl, rfl, rfl⟩ := h
    exact ⟨by simp [Builtin.lenOf], Lib.run_firstCells_string (P := P) w' 1 s⟩
theorem Src.und {w : World} {size : Nat} {u : TypeId} {x : Value} {m : Nat} {news : List Value} (h : Src P w size u x m news) :
    (∃ e, P.underlying u = some (.slice e)) ∨ P.underlying u = some .string := by
  obtain ⟨_, _, h | h⟩ := h
  · obtain ⟨_, _, _, _, _, h⟩ := h
    exact .inl h
  · exact .inr h.2.1
theorem run_app (t u ty e : TypeId) (size bytes : Nat) (he : El P t e size bytes) (v : Value) (n : Nat) (xs : List Value) (hown : Own w e size v n xs)
    (x : Value) (m : Nat) (news : List Value) (hsrc : Src P w size u x m news) (h63 : n + m ≤ maxLen) (hbytes : (n + m) * bytes ≤ 140737488355328) :
    ∃ v' w', (Builtin.append_ #[t, u] ty #[v, x]).run P w = .ok v' w' ∧ Own w' e size v' (n + m) (xs ++ news) ∧ Fr (AtO v.ownBlock) w w' ∧
      (v'.ownBlock = v.ownBlock ∨ v'.ownBlock = some w.heap.size) := by
  obtain ⟨ht, ⟨i, z, hi, hz, hsize, hby, hzs⟩, hpos⟩ := he
  subst hsize
  subst hby
  have hlen : (xs ++ news).length = (n + m) * i.size := by rw [List.length_append, hown.1, hsrc.1, Nat.add_mul]
  have hsmall : n + m ≤ 9223372036854775807 := by simp only [maxLen] at h63; omega
  have h63' : ¬ (9223372036854775807 < ((n : Int) + (m : Int))) := by omega
  have hrun := hsrc.run w rfl
  have hrun' := hsrc.run w.drew rfl
  have hzero : (match P.underlying u with | some d => some (d matches .int _) | none => none) = some false := by
    rcases hsrc.und with ⟨e', hu⟩ | hu <;> rw [hu]
  have grown : ∀ (old : Nat), old < n + m → ∀ S : Nat → Prop,
      Own (w.drew.alloc (.cells (xs.toArray ++ news.toArray ++ Builtin.zeroCells z.cells (grownCap w (n + m) old e - (n + m))) e)) e i.size
        (.slice (some ⟨w.heap.size, 0, none⟩) (n + m) (grownCap w (n + m) old e)) (n + m) (xs ++ news) ∧
      Fr S w (w.drew.alloc (.cells (xs.toArray ++ news.toArray ++ Builtin.zeroCells z.cells (grownCap w (n + m) old e - (n + m))) e)) := by
    intro old ho S
    have hge := grownCap_ge w (n + m) old e
    have hcm : grownCap w (n + m) old e ≤ maxLen := grownCap_le_maxLen w (n + m) old e h63
    refine ⟨⟨hlen, .inr ⟨w.heap.size, _, _, rfl, heap_alloc_new w.drew _, hge, hcm, ?_, ?_⟩⟩, ((Fr.refl S w).drew).alloc _⟩
    · simp only [Array.size_append, List.size_toArray, size_zeroCells, hzs, hown.1, hsrc.1, ← Nat.add_mul]
      exact Nat.mul_le_mul_right _ (by omega)
    · simp only [Array.toList_append, List.append_assoc]
      rw [← List.append_assoc, ← hlen]
      exact List.take_left
  rcases hown.2 with ⟨rfl, rfl⟩ | ⟨g, cap, cur, rfl, hg, hnc, hcm, hcs, htake⟩
  · have hx : xs = [] := List.eq_nil_of_length_eq_zero (by simpa using hown.1)
    subst hx
    by_cases hm : m = 0
    · subst hm
      have hn : news = [] := List.eq_nil_of_length_eq_zero (by simpa using hsrc.1)
      subst hn
      refine ⟨.slice none 0 0, w, ?_, Own.nil w e i.size, Fr.refl _ w, .inl rfl⟩
      rcases hsrc.und with ⟨e', hu⟩ | hu <;>
        simp [Builtin.append_, run_underlying ht, run_underlying hu, sizeOf, typeInfo, hi, hrun.1, hrun.2]
    · have h48' : ¬ (281474976710656 < Builtin.nextslicecap m 0 * i.bytes) := by rw [nextslicecap_zero (by omega)]; simp only [Nat.zero_add] at hbytes; omega
      have hgr := grown 0 (by omega) (AtO (Value.ownBlock (.slice none 0 0)))
      have h63'' : ¬ (9223372036854775807 < (m : Int)) := by omega
      simp only [Nat.zero_add, List.nil_append, Array.empty_append] at hgr ⊢
      refine ⟨_, _, ?_, hgr.1, hgr.2, .inr rfl⟩
      rcases hsrc.und with ⟨e', hu⟩ | hu <;>
        simp [Builtin.append_, run_underlying ht, run_underlying hu, sizeOf, typeInfo, zeroValue, hi, hz, hrun.1, hrun'.2, hm, h63'', h48', Question.forced, run_firstCells_none, newRow, grownCap]
  · by_cases hroom : n + m ≤ cap
    · have hfit : n * i.size + news.length ≤ cur.size := by
        rw [hsrc.1, ← Nat.add_mul]
        exact Nat.le_trans (Nat.mul_le_mul_right _ hroom) hcs
      have hst := run_storeCells_at P g (n * i.size) e news 0 cur w hg (by simpa using hfit) hsrc.2.1
      simp only [Nat.add_zero] at hst
      refine ⟨.slice (some ⟨g, 0, none⟩) (n + m) cap, w.setRow g (cur.toList.take (n * i.size) ++ news ++ cur.toList.drop (n * i.size + news.length)).toArray, ?_,
        ⟨hlen, .inr ⟨g, cap, _, rfl, setRow_heap w g cur _ e _ hg, hroom, hcm, ?_, ?_⟩⟩, Fr.setRow (S := AtO (Value.ownBlock (.slice (some ⟨g, 0, none⟩) n cap))) (Fr.refl _ w) (fun _ => rfl) _, .inl rfl⟩
      · rcases hsrc.und with ⟨e', hu⟩ | hu <;>
          simp [Builtin.append_, run_underlying ht, run_underlying hu, sizeOf, typeInfo, hi, hrun.1, hrun.2, hroom, Addr.add_lit, hst]
      · simp only [List.size_toArray, List.length_append, List.length_take, List.length_drop, Array.length_toList]
        omega
      · rw [htake, ← hlen]
        exact List.take_left
    · have holds : ∀ j u, xs[j]? = some u → w.drew.cell? ((⟨g, 0, none⟩ : Addr).add j) = some u := by
        intro j u hu
        rcases Nat.eq_zero_or_pos n with h0 | h0
        · subst h0
          have : xs = [] := List.eq_nil_of_length_eq_zero (by simpa using hown.1)
          subst this
          simp at hu
        · obtain ⟨ad, hA, _, hc⟩ := hown.rd.2 h0
          injection hA with hA
          subst hA
          exact hc j u hu
      have h48' : ¬ (281474976710656 < Builtin.nextslicecap (n + m) cap * i.bytes) := by
        have := growslice_fits (need := n + m) (old := cap) (bytes := i.bytes) (by omega) hbytes
        omega
      have hfo := run_firstCells_some (P := P) w.drew i.size n ⟨g, 0, none⟩ n cap xs hown.1 holds
      have hgr := grown cap (by omega) (AtO (Value.ownBlock (.slice (some ⟨g, 0, none⟩) n cap)))
      refine ⟨_, _, ?_, hgr.1, hgr.2, .inr rfl⟩
      rcases hsrc.und with ⟨e', hu⟩ | hu <;>
        (simp [Builtin.append_, run_underlying ht, run_underlying hu, sizeOf, typeInfo, zeroValue, hi, hz, hrun.1, hrun'.2, hroom, h63', h48', Question.forced, hfo, newRow, grownCap]
         congr 2
         apply Array.ext'
         simp [List.append_assoc])
theorem wp_app {o : Oper} {a : Act} {K : Act → World → Prop} {Q : Exit → Act → World → Prop} (s x : Operand) (t u : TypeId)
    (ho : o.op = .call { callee := .builtin .append, args := #[s, x], argTypes := #[t, u] })
    {e : TypeId} {size bytes : Nat} (he : El P t e size bytes) {v : Value} {n : Nat} {xs : List Value} (hown : Own w e size v n xs) (hs : a.eval s = v)
    {xv : Value} {m : Nat} {news : List Value} (hsrc : Src P w size u xv m news) (hx : a.eval x = xv) (h63 : n + m ≤ maxLen) (hbytes : (n + m) * bytes ≤ 140737488355328)
    (h : ∀ v' w', Own w' e size v' (n + m) (xs ++ news) → Fr (AtO v.ownBlock) w w' → (v'.ownBlock = v.ownBlock ∨ v'.ownBlock = some w.heap.size) → K (a.put o.dst v') w') : o.wp P a w K Q := by
  obtain ⟨v', w', hr, h2, h3, h4⟩ := run_app (P := P) w t u o.type e size bytes he v n xs hown xv m news hsrc h63 hbytes
  unfold Oper.wp execOp
  simp only [ho, resolve, invoke, builtin, Sem.run_bind, Sem.run_pure, Result.andThen_ok, List.map_toArray, List.map_cons, List.map_nil, hs, hx, hr]
  exact h v' w' h2 h3 h4
theorem wpList_app {ops : Array Oper} {rest : List Oper} {o : Oper} {a : Act} {Q : Exit → Act → World → Prop} (hgd : o.guard = none) (s x : Operand) (t u : TypeId)
    (ho : o.op = .call { callee := .builtin .append, args := #[s, x], argTypes := #[t, u] })
    {e : TypeId} {size bytes : Nat} (he : El P t e size bytes) {v : Value} {n : Nat} {xs : List Value} (hown : Own w e size v n xs) (hs : a.eval s = v)
    {xv : Value} {m : Nat} {news : List Value} (hsrc : Src P w size u xv m news) (hx : a.eval x = xv) (h63 : n + m ≤ maxLen) (hbytes : (n + m) * bytes ≤ 140737488355328)
    (h : ∀ v' w', Own w' e size v' (n + m) (xs ++ news) → Fr (AtO v.ownBlock) w w' → (v'.ownBlock = v.ownBlock ∨ v'.ownBlock = some w.heap.size) → wpList P ops Q rest (a.put o.dst v') w') : wpList P ops Q (o :: rest) a w :=
  wpList_plain hgd fun _ hK => wp_app w s x t u ho he hown hs hsrc hx h63 hbytes fun v' w' h2 h3 h4 => hK _ _ (h v' w' h2 h3 h4)
theorem step_app {ops : Array Oper} {o : Oper} {a : Act} {K : Act → World → Prop} {Q : Exit → Act → World → Prop} {E : Prop} (hgd : o.guard = none) (s x : Operand) (t u : TypeId)
    (ho : o.op = .call { callee := .builtin .append, args := #[s, x], argTypes := #[t, u] })
    {e : TypeId} {size bytes : Nat} (he : El P t e size bytes) {v : Value} {n : Nat} {xs : List Value} (hown : Own w e size v n xs) (hs : a.eval s = v)
    {xv : Value} {m : Nat} {news : List Value} (hsrc : Src P w size u xv m news) (hx : a.eval x = xv) (h63 : n + m ≤ maxLen) (hbytes : (n + m) * bytes ≤ 140737488355328)
    (h : ∀ v' w', Own w' e size v' (n + m) (xs ++ news) → Fr (AtO v.ownBlock) w w' → (v'.ownBlock = v.ownBlock ∨ v'.ownBlock = some w.heap.size) → K (a.put o.dst v') w') :
    if Region.wanted o (yielded ops a.tmps) = true then Oper.wp P o a w K Q else E := by
  have hw : Region.wanted o (yielded ops a.tmps) = true := by simp [Region.wanted, hgd]
  rw [if_pos hw]
  exact wp_app w s x t u ho he hown hs hsrc hx h63 hbytes h
end
def bs (l : List UInt8) : List Value := l.map fun b => Value.int .u8 (b.toNat : Int)
def is_ (l : List Int) : List Value := l.map fun n => Value.int .i64 n
theorem is_one (l : List Int) : ∀ u ∈ is_ l, u.oneCell' = true := by
  intro u hu
  simp only [is_, List.mem_map] at hu
  obtain ⟨b, _, rfl⟩ := hu
  rfl
theorem is_get (l : List Int) (k : Nat) (h : k < l.length) : (is_ l)[k]? = some (.int .i64 l[k]) := by simp [is_, h]
theorem is_append (l r : List Int) : is_ (l ++ r) = is_ l ++ is_ r := by simp [is_]
theorem Src.of_rd {P : Program} {w : World} {F : Nat → Prop} {size n c : Nat} {A : Option Addr} {xs : List Value} {u e : TypeId} (h : Rd w F size A n xs) (h1 : ∀ y ∈ xs, y.oneCell' = true)
    (hu : P.underlying u = some (.slice e)) : Src P w size u (.slice A n c) n xs := ⟨h.1, h1, .inl ⟨A, c, F, rfl, h, e, hu⟩⟩
theorem Src.of_new {P : Program} {w : World} {u e t : TypeId} {cs : Array Value} {n c : Nat} {size : Nat} (B : Nat) (hB : w.heap[B]? = some (.cells cs t (0, 0))) (hu : P.underlying u = some (.slice e))
    (hn : cs.size = n * size) (h1 : ∀ y ∈ cs.toList, y.oneCell' = true) : Src P w size u (.slice (some ⟨B, 0, none⟩) n c) n cs.toList :=
  ⟨by simpa using hn, h1, .inl ⟨_, c, fun _ => True, rfl, ⟨by simpa using hn, fun _ => ⟨_, rfl, trivial, World.news_of_block hB⟩⟩, e, hu⟩⟩
def zrow (n : Nat) (z : Value) : List Value := List.replicate n z
theorem zrow_length (n : Nat) (z : Value) : (zrow n z).length = n := by simp [zrow]
theorem run_make1 {P : Program} {t e : TypeId} {bytes : Nat} (he : El P t e 1 bytes) {z : Value} (hz : ∀ i, P.info? e = some i → i.zero = some z) (hc : z.cells = #[z]) (kl kc : IntKind) (n : Nat) (hb : n * bytes ≤ 281474976710656) (hn : n ≤ maxLen) (w : World) :
    (Instr.makeSlice t (.int kl (n : Int)) (.int kc (n : Int))).run P w = .ok (.slice (some ⟨w.heap.size, 0, none⟩) n n) (w.alloc (.cells (zrow n z).toArray e)) := by
  obtain ⟨ht, ⟨i, z', hi, hz', hs, hby, _⟩, _⟩ := he
  have hzz : z' = z := by have := hz i hi; rw [hz'] at this; injection this
  subst hzz
  have hb' : (i.bytes : Int) * (n : Int) ≤ 281474976710656 := by
    have h : ((i.bytes * n : Nat) : Int) ≤ 281474976710656 := by rw [hby, Nat.mul_comm]; omega
    rwa [Int.natCast_mul] at h
  have hr := run_make (P := P) w t e i z' ht hi hz' kl kc n n (by omega) (Int.le_refl _) hb' (by simp only [maxLen] at hn; omega)
  simp only [Int.toNat_natCast] at hr
  rw [hr, hs, Nat.mul_one, hc]
  have e1 : madeCells #[z'] n = (zrow n z').toArray := by
    apply Array.ext'
    rw [toList_madeCells_one]
    rfl
  rw [e1]
end Go.My
namespace Go.My
open Go.RowKit
set_option linter.unusedSimpArgs false
set_option linter.unusedVariables false
theorem Own.formPos {w : World} {e : TypeId} {size n : Nat} {v : Value} {xs : List Value} (h : Own w e size v n xs) (hn : 0 < n) : ∃ g c cur, v = .slice (some ⟨g, 0, none⟩) n c ∧ Blk w g e cur ∧ n ≤ c ∧ c ≤ maxLen ∧ c * size ≤ cur.size ∧ cur.toList.take (n * size) = xs := by
  rcases h.2 with ⟨_, h0⟩ | ⟨g, cap, cur, hv, hg, h1, h2, h3, h4⟩
  · omega
  · exact ⟨g, cap, cur, hv, hg, h1, h2, h3, h4⟩
theorem Own.store {w : World} {e : TypeId} {n g c : Nat} {xs : List Value} (h : Own w e 1 (.slice (some ⟨g, 0, none⟩) n c) n xs) (j : Nat) (hj : j < n) (u : Value) :
    Own (w.setCell ⟨g, j, none⟩ u) e 1 (.slice (some ⟨g, 0, none⟩) n c) n (xs.set j u) ∧ (∃ y, w.cell? ⟨g, j, none⟩ = some y) ∧ w.frozen? ⟨g, j, none⟩ = false := by
  have hl := h.1
  obtain ⟨g', c', cur, hv, hg, h1, h2, h3, h4⟩ := h.formPos (by omega)
  injection hv with hA _ hc
  injection hA with hA
  injection hA with hg'
  subst hg' hc
  have hcur : j < cur.size := by simp only [Nat.mul_one] at h3; omega
  refine ⟨⟨by simpa using hl, .inr ⟨g, c, cur.setIfInBounds j u, rfl, hg.set_ j u, h1, h2, by simpa using h3, ?_⟩⟩, ⟨cur[j], by rw [hg.cell]; simp [hcur]⟩, hg.frozen j⟩
  rw [← h4]
  simp only [Array.toList_setIfInBounds]
  rw [List.take_set]
def RdT (B : Nat) (t : TypeId) (w : World) (A : Option Addr) (n : Nat) (xs : List Value) : Prop := ∃ F, Rd w F 1 A n xs ∧ ∀ k, F k → k < B ∨ ∃ cur, Blk w k t cur
theorem RdT.fr {B : Nat} {t : TypeId} {a b : World} {A : Option Addr} {n : Nat} {xs : List Value} {S : Nat → Prop} (h : RdT B t a A n xs) (hf : Fr S a b) (hS : ∀ k, S k → B ≤ k ∧ ∀ cur, ¬ Blk a k t cur) : RdT B t b A n xs := by
  obtain ⟨F, hr, hF⟩ := h
  have h1 := hr.lt (by omega)
  have hno : ∀ k, F k → ¬ S k := fun k hk hs => by
    rcases hF k hk with h | ⟨cur, hc⟩
    · have := (hS k hs).1; omega
    · exact (hS k hs).2 cur hc
  refine ⟨fun k => F k ∧ k < a.heap.size, h1.fr (by omega) hf (fun k hk _ => hno k hk.1), fun k hk => ?_⟩
  rcases hF k hk.1 with h | ⟨cur, hc⟩
  · exact .inl h
  · exact .inr ⟨cur, hc.fr hf (hno k hk.1)⟩
theorem add_lits (a : Addr) (i k : Nat) (hk : 0 < k) : a.add (i + k) = ⟨(a.add i).block, (a.add i).off + k, none⟩ := by
  rw [← add_of_add]
  unfold Addr.add
  rw [if_neg (by omega : ¬ k = 0)]
end Go.My
namespace Go.My
open Go.RowKit Go.ChangeShapes Go.WideShapes
set_option linter.unusedSimpArgs false
set_option linter.unusedVariables false
def Lt (H : Nat) : Nat → Prop := fun k => k < H
theorem rd_lt {w : World} {F : Nat → Prop} {size n : Nat} {A : Option Addr} {xs : List Value} (h : Rd w F size A n xs) (hs : 0 < size) : Rd w (Lt w.heap.size) size A n xs := (h.lt hs).more fun _ hk => hk.2
section
variable {H : Type} {enc : TypeId × Value → H} {P : Program} {w : World} {base : Nat} {spare : Nat → Bool} {held : Bool}
def Each {X : Type} (R : List Value → X → Prop) (size : Nat) (cells : List Value) (xs : List X) : Prop :=
  cells.length = xs.length * size ∧ ∀ (i : Nat) (x : X), xs[i]? = some x → R ((cells.drop (i * size)).take size) x
theorem open_each {X : Type} (R : List Value → X → Prop) {t e : TypeId} {size fuel : Nat} {cs : List Value} {x : DataW H × List MemPlace} (ht : P.underlying t = some (.slice e)) (hC : P.cellsOf e = size) (hpos : 0 < size)
    (hR : ∀ n cs x, DataW.trod enc P w base spare held n e cs = some x → ∃ X, R cs X) (h : DataW.trod enc P w base spare held fuel t cs = some x) :
    ∃ (A : Option Addr) (c : Nat) (cells : List Value) (xs : List X), cs = [.slice A xs.length c] ∧ Rd w (Lt w.heap.size) size A xs.length cells ∧ xs.length ≤ c ∧ c ≤ maxLen ∧ Each R size cells xs := by
  rcases Go.Deep.open_slice ht h with ⟨hcs, _⟩ | ⟨a, n, c, m, k, D, Pl, hcs, _, hl, hm, hmm, _, hi⟩
  · exact ⟨none, 0, [], [], hcs, Rd.none_, Nat.le_refl _, Nat.zero_le _, ⟨by simp, fun i x hx => by simp at hx⟩⟩
  · have hnm : n ≤ m := by rw [hmm]; split <;> omega
    rw [hC] at hi
    have main : ∀ n, n ≤ m → ∃ (cells : List Value) (xs : List X), xs.length = n ∧ cells.length = n * size ∧ (∀ j u, cells[j]? = some u → w.cell? (a.add j) = some u) ∧ Each R size cells xs := by
      intro n
      induction n with
      | zero => intro _; exact ⟨[], [], rfl, by simp, fun j u hu => by simp at hu, ⟨by simp, fun i x hx => by simp at hx⟩⟩
      | succ n ih =>
        intro hn
        obtain ⟨cells, xs, hxl, hcl, hcell, hel, heach⟩ := ih (by omega)
        obtain ⟨cs', hc', ht'⟩ := hi n (by omega)
        obtain ⟨_, hcl', hat⟩ := World.cells?_some hc'
        obtain ⟨X0, hX0⟩ := hR _ _ _ ht'
        refine ⟨cells ++ cs', xs ++ [X0], by simp [hxl], by rw [List.length_append, hcl, hcl', Nat.add_mul, Nat.one_mul], ?_, by rw [List.length_append, hcl, hcl', List.length_append, hxl]; simp [Nat.add_mul], ?_⟩
        · intro j u hu
          by_cases hj : j < cells.length
          · rw [List.getElem?_append_left hj] at hu
            exact hcell j u hu
          · rw [List.getElem?_append_right (by omega)] at hu
            have hjl : j - cells.length < cs'.length := (List.getElem?_eq_some_iff.1 hu).1
            have := hat (j - cells.length) (by omega)
            rw [hu] at this
            rw [add_of_add] at this
            rw [← this]
            congr 2
            omega
        · intro i x hx
          by_cases hil : i < xs.length
          · rw [List.getElem?_append_left hil] at hx
            have h1 := heach i x hx
            have hle : i * size + size ≤ cells.length := by
              rw [hcl, ← hxl, ← Nat.succ_mul]
              exact Nat.mul_le_mul_right _ hil
            rw [List.drop_append_of_le_length (by omega), List.take_append_of_le_length (by rw [List.length_drop]; omega)]
            exact h1
          · rw [List.getElem?_append_right (by omega)] at hx
            have hi0 : i - xs.length = 0 := by
              rcases Nat.eq_zero_or_pos (i - xs.length) with h | h
              · exact h
              · rw [List.getElem?_eq_none (by simp; omega)] at hx; cases hx
            rw [hi0] at hx
            simp only [List.getElem?_cons_zero, Option.some.injEq] at hx
            subst hx
            have hin : i = n := by omega
            subst hin
            rw [← hcl, List.drop_left, List.take_of_length_le (by omega)]
            exact hX0
    obtain ⟨cells, xs, hxl, hcl, hcell, heach⟩ := main n hnm
    subst hxl
    exact ⟨some a, c, cells, xs, hcs, rd_lt (F := fun _ => True) ⟨hcl, fun _ => ⟨a, rfl, trivial, hcell⟩⟩ hpos, hl, hm, heach⟩
end
end Go.My
namespace Go.Proofs.YtcpgamidimfflaaGreat
open Go.RowKit Go.My
set_option linter.unusedSimpArgs false
set_option linter.unusedVariables false
def Newer (H : Nat) (g0 g : Option Nat) : Prop := g = g0 ∨ ∃ k, g = some k ∧ H ≤ k
theorem Newer.trans {H H' : Nat} {a b c : Option Nat} (h : Newer H a b) (k : Newer H' b c) (hH : H ≤ H') : Newer H a c := by
  rcases k with rfl | ⟨k, rfl, hk⟩
  · exact h
  · exact .inr ⟨k, rfl, by omega⟩
theorem Newer.of {H : Nat} {a b : Option Nat} (h : b = a ∨ b = some H) : Newer H a b := by
  rcases h with rfl | rfl
  · exact .inl rfl
  · exact .inr ⟨_, rfl, Nat.le_refl _⟩
theorem newer_none {H : Nat} {g : Option Nat} (h : Newer H none g) : ∀ k, g = some k → H ≤ k := by
  intro k hk
  rcases h with rfl | ⟨j, rfl, hj⟩
  · cases hk
  · injection hk with hk; omega
def RetOwn (w : World) (e : TypeId) (size : Nat) (g0 : Option Nat) (n : Nat) (xs : List Value) (en : Ending) (w' : World) : Prop :=
  ∃ v', en = .returned v' ∧ Own w' e size v' n xs ∧ Fr (AtO g0) w w' ∧ Newer w.heap.size g0 v'.ownBlock
theorem fr_no {g : Option Nat} {a b c : World} (h : Fr No a b) (hn : Newer a.heap.size none g) (k : Fr (AtO g) b c) : Fr No a c :=
  h.trans' k fun i hi hlt => by
    rcases hn with rfl | ⟨k, rfl, hk⟩
    · simp [AtO] at hi
    · simp only [AtO, Option.some.injEq] at hi
      omega
theorem fr_at_none {a b : World} (h : Fr (AtO none) a b) : Fr No a b := h.mono fun _ _ h => by simp [AtO] at h
def RetTrue (w : World) (e : Ending) (w' : World) : Prop := e = .returned (.bool true) ∧ Below w.heap.size w w'
theorem below_fr_no {B : Nat} {a b c : World} (h : Below B a b) (k : Fr No b c) (hB : B ≤ b.heap.size) : Below B a c := h.trans (k.belowNo.mono hB)
end Go.Proofs.YtcpgamidimfflaaGreat
namespace Go.My
open Go Go.RowKit
set_option linter.unusedSimpArgs false
set_option linter.unusedVariables false
def In64 (x : Int) : Prop := -9223372036854775808 ≤ x ∧ x ≤ 9223372036854775807
instance (x : Int) : Decidable (In64 x) := by unfold In64; infer_instance
def sumV (x : Int) : Int := if In64 x then x else 0
def sumN (x : Int) : Nat := if In64 x then 0 else 2
theorem sumV_in {x : Int} (h : In64 x) : sumV x = x := if_pos h
theorem sumN_in {x : Int} (h : In64 x) : sumN x = 0 := if_pos h
theorem sumV_out {x : Int} (h : ¬ In64 x) : sumV x = 0 := if_neg h
theorem sumN_out {x : Int} (h : ¬ In64 x) : sumN x = 2 := if_neg h
theorem wrap64_eq (x : Int) : wrap64 x = (x + 9223372036854775808) % 18446744073709551616 - 9223372036854775808 := by unfold wrap64; rfl
def total (l : List Int) : Int := l.foldr (· + ·) 0
theorem total_nil : total [] = 0 := rfl
theorem total_cons (x : Int) (l : List Int) : total (x :: l) = x + total l := rfl
theorem total_append (l r : List Int) : total (l ++ r) = total l + total r := by
  induction l with
  | nil => simp [total_nil]
  | cons x l ih => rw [List.cons_append, total_cons, total_cons, ih]; omega
theorem total_bound (l : List Int) (h : ∀ x ∈ l, In64 x) : -9223372036854775808 * l.length ≤ total l ∧ total l ≤ 9223372036854775808 * l.length := by
  induction l with
  | nil => simp [total_nil]
  | cons x l ih =>
    have h1 := h x List.mem_cons_self
    have h2 := ih fun y hy => h y (List.mem_cons_of_mem _ hy)
    rw [total_cons]
    unfold In64 at h1
    simp only [List.length_cons, Int.natCast_add]
    omega
end Go.My
