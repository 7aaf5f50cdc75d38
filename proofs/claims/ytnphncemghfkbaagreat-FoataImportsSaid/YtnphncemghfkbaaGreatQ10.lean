/- Orders with the values of their legs, as cells; rows of such rows. Where an Id stands first; orders of their own Ids: the walks. The document's own Same of orders. Equal lists are the same; ClashRest: the walk. slices.Concat of orders; foata.Lay. -/
import Derived.Test.YtnphncemghfkbaaGreatQ08
import Derived.Test.YtnphncemghfkbaaGreatQ09
import Derived.Test.YtnphncemghfkbaaGreatQ05
import Derived.Test.YtnphncemghfkbaaGreatQ06
import Derived.Deep.RegionHeld3
import Derived.Deep.DrawnRows
import Derived.Test.YtnphncemghfkbaaGreatQ04
namespace Go.My
set_option linter.unusedSimpArgs false
set_option linter.unusedVariables false
/-- the cells of a row of elements of n cells each -/
def flatE {X : Type} (enc : X → List Value) (L : List X) : List Value := L.flatMap enc
section
variable {X : Type} {enc : X → List Value} {n : Nat}
theorem flatE_cons (a : X) (L : List X) : flatE enc (a :: L) = enc a ++ flatE enc L := rfl
theorem flatE_append (L M : List X) : flatE enc (L ++ M) = flatE enc L ++ flatE enc M := by unfold flatE; rw [List.flatMap_append]
theorem flatE_length (hn : ∀ x, (enc x).length = n) (L : List X) : (flatE enc L).length = L.length * n := by
  induction L with
  | nil => simp [flatE]
  | cons a L ih => rw [flatE_cons, List.length_append, ih, List.length_cons, hn, Nat.add_mul]; omega
theorem flatE_at (h0 : 0 < n) (hn : ∀ x, (enc x).length = n) : ∀ (L : List X) (t i : Nat) (ht : t < L.length), i < n → (flatE enc L)[t * n + i]? = (enc L[t])[i]?
  | [], t, i, h, _ => absurd h (Nat.not_lt_zero _)
  | a :: L, t, i, h, hi => by
    rw [flatE_cons]
    cases t with
    | zero =>
      rw [Nat.zero_mul, Nat.zero_add, List.getElem?_append_left (by rw [hn]; exact hi)]
      rfl
    | succ t =>
      rw [List.getElem?_append_right (by rw [hn, Nat.add_mul]; omega), hn]
      rw [show (t + 1) * n + i - n = t * n + i by rw [Nat.add_mul]; omega]
      rw [flatE_at h0 hn L t i (by simpa using h) hi]
      rfl
end
end Go.My
namespace Go.Proofs.YtnphncemghfkbaaGreat
open Go.RowKit Go.My Go.Maps Go.WideMaps
set_option linter.unusedSimpArgs false
set_option linter.unusedVariables false

/-- an order, and the value of its legs -/
abbrev Sv := Option Addr × Nat × Nat
def svV (s : Sv) : Value := .slice s.1 s.2.1 s.2.2
abbrev Ov := Od × Sv
def encO (p : Ov) : List Value := p.1.cs (svV p.2)
theorem enc_ones (p : Ov) : ∀ y ∈ encO p, y.oneCell' = true := by
  intro y hy
  unfold encO Od.cs svV at hy
  simp only [List.mem_cons, List.not_mem_nil, or_false] at hy
  rcases hy with rfl | rfl | rfl | rfl | rfl | rfl | rfl | rfl | rfl | rfl <;> rfl
theorem encO_len (p : Ov) : (encO p).length = 10 := rfl
def ocs (L : List Ov) : List Value := flatE encO L
theorem ocs_length (L : List Ov) : (ocs L).length = L.length * 10 := flatE_length encO_len L
theorem ocs_append (L M : List Ov) : ocs (L ++ M) = ocs L ++ ocs M := flatE_append L M
theorem ocs_one (o : Od) (A : Option Addr) (n c : Nat) : ocs [(o, (A, n, c))] = o.cs (.slice A n c) := by unfold ocs flatE; simp [encO, svV]
/-- an order that lies as it should, its legs in blocks that F names -/
def OvOk (w : World) (F : Nat → Prop) (p : Ov) : Prop := p.1.ok ∧ (∀ g ∈ p.1.legs, g.ok) ∧ LgS w F (svV p.2) p.1.legs
theorem OvOk.frS {w w' : World} {F G S : Nat → Prop} {p : Ov} (h : OvOk w F p) (hf : Fr S w w') (hn : ∀ k, F k → k < w.heap.size → ¬ S k) (hG : ∀ k, F k → G k) : OvOk w' G p := ⟨h.1, h.2.1, (h.2.2.frS hf hn).more hG⟩
theorem ocs_each {w : World} {F : Nat → Prop} (L : List Ov) (h : ∀ p ∈ L, OvOk w F p) : Each (OdRF w F) 10 (ocs L) (L.map (·.1)) := by
  refine ⟨by rw [ocs_length, List.length_map], fun i x hx => ?_⟩
  rw [List.getElem?_map] at hx
  obtain ⟨p, hp, rfl⟩ := Option.map_eq_some_iff.1 hx
  obtain ⟨hi, rfl⟩ := List.getElem?_eq_some_iff.1 hp
  refine ⟨svV L[i].2, ?_, (h _ (List.getElem_mem hi)).1, (h _ (List.getElem_mem hi)).2.1, (h _ (List.getElem_mem hi)).2.2⟩
  apply List.ext_getElem?
  intro j
  rw [List.getElem?_take]
  by_cases hj : j < 10
  · rw [if_pos hj, List.getElem?_drop]
    exact flatE_at (by omega) encO_len L i j hi hj
  · rw [if_neg hj, List.getElem?_eq_none]
    show (encO L[i]).length ≤ j
    rw [encO_len]
    omega
theorem ov_one {L : List Ov} {w : World} {F : Nat → Prop} (h : ∀ p ∈ L, OvOk w F p) : ∀ y ∈ ocs L, y.oneCell' = true := each_all (P := fun y => y.oneCell' = true) (by omega) (ocs_each L h) odrf_one
theorem ovs_lt {w : World} {L : List Ov} {F : Nat → Prop} (h : ∀ p ∈ L, OvOk w F p) (hF : ∀ k, F k → k < w.heap.size) : Each (OdR w) 10 (ocs L) (L.map (·.1)) := each_imp (ocs_each L h) fun cs o h => h.r hF

/-- cells of one each that hold slices of orders -/
theorem elRow : El Tryz.prog 29 22 1 24 := ⟨Tryz.underlying29, by
  have h : (Tryz.prog.info? 22).map (fun i => (i.zero, i.size, i.bytes)) = some (some (.slice none 0 0), 1, 24) := by kernel_rfl
  obtain ⟨i, hi, hz, hs, hb⟩ := info_parts h
  exact ⟨i, _, hi, hz, hs, hb, rfl⟩, by omega⟩
theorem elInt : El Tryz.prog 56 3 1 8 := ⟨Tryz.underlying56, by
  have h : (Tryz.prog.info? 3).map (fun i => (i.zero, i.size, i.bytes)) = some (some (.int .i64 0), 1, 8) := by kernel_rfl
  obtain ⟨i, hi, hz, hs, hb⟩ := info_parts h
  exact ⟨i, _, hi, hz, hs, hb, rfl⟩, by omega⟩
theorem zeroInt : ∀ i, Tryz.prog.info? 3 = some i → i.zero = some (.int .i64 0) := by
  have h : (Tryz.prog.info? 3).map (fun i => i.zero) = some (some (.int .i64 0)) := by kernel_rfl
  intro i hi
  rw [hi] at h
  simpa using h
theorem zeroRow : ∀ i, Tryz.prog.info? 22 = some i → i.zero = some (.slice none 0 0) := by
  have h : (Tryz.prog.info? 22).map (fun i => i.zero) = some (some (.slice none 0 0)) := by kernel_rfl
  intro i hi
  rw [hi] at h
  simpa using h

/-- rows of orders in memory: the row's values are vs, in the block gs; they are the call's own, and apart from one another -/
def RowF (B : Nat) (w : World) (gs : Nat) (vs : List Value) (k : Nat) : Prop := B ≤ k ∧ k < w.heap.size ∧ k ≠ gs ∧ ∀ v ∈ vs, v.ownBlock ≠ some k
structure Rows (B : Nat) (w : World) (gs : Nat) (vs : List Value) (R : List (List Ov)) : Prop where
  len : vs.length = R.length
  own : ∀ (i : Nat) (v : Value) (L : List Ov), vs[i]? = some v → R[i]? = some L → Own w 47 10 v L.length (ocs L)
  good : ∀ (i : Nat) (L : List Ov), R[i]? = some L → ∀ p ∈ L, OvOk w (RowF B w gs vs) p
  new : ∀ (i : Nat) (v : Value) (k : Nat), vs[i]? = some v → v.ownBlock = some k → B ≤ k
  apart : ∀ (i j : Nat) (v u : Value) (k : Nat), i ≠ j → vs[i]? = some v → vs[j]? = some u → v.ownBlock = some k → u.ownBlock ≠ some k
  out : Own w 22 1 (.slice (some ⟨gs, 0, none⟩) vs.length vs.length) vs.length vs
  base : B ≤ gs
theorem Rows.no {B : Nat} {w w' : World} {gs : Nat} {vs : List Value} {R : List (List Ov)} (h : Rows B w gs vs R) (hf : Fr No w w') : Rows B w' gs vs R where
  len := h.len
  own i v L h1 h2 := (h.own i v L h1 h2).fr hf (fun _ _ h => h)
  good i L h1 p hp := (h.good i L h1 p hp).frS hf (fun _ _ _ h => h) (fun k hk => ⟨hk.1, Nat.lt_of_lt_of_le hk.2.1 hf.size, hk.2.2⟩)
  new := h.new
  apart := h.apart
  out := h.out.fr hf (fun _ _ h => h)
  base := h.base
/-- a row's block is not the outer one -/
theorem Rows.ne {B : Nat} {w : World} {gs : Nat} {vs : List Value} {R : List (List Ov)} (h : Rows B w gs vs R) {i : Nat} {v : Value} {L : List Ov} (h1 : vs[i]? = some v) (h2 : R[i]? = some L) : v.ownBlock ≠ some gs := by
  obtain ⟨cur, hc⟩ := h.out.blk gs rfl
  exact (h.own i v L h1 h2).ne_ hc (by decide)
/-- one row is written anew -/
theorem Rows.put {B : Nat} {w w1 w2 : World} {gs : Nat} {vs : List Value} {R : List (List Ov)} (h : Rows B w gs vs R) {i : Nat} {v v' : Value} {L L' : List Ov} (h1 : vs[i]? = some v) (h2 : R[i]? = some L)
    (hf : Fr (AtO v.ownBlock) w w1) (ho : Own w1 47 10 v' L'.length (ocs L')) (hn : v'.ownBlock = v.ownBlock ∨ ∃ k, v'.ownBlock = some k ∧ w.heap.size ≤ k)
    (hL : ∀ p ∈ L', OvOk w1 (RowF B w1 gs (vs.set i v')) p) (hw2 : w2 = w1.setCell ⟨gs, i, none⟩ v') : Rows B w2 gs (vs.set i v') (R.set i L') := by
  have hB : B ≤ gs := h.base
  have hne := h.ne h1 h2
  have hil : i < vs.length := (List.getElem?_eq_some_iff.1 h1).1
  have hgl : gs < w.heap.size := h.out.lt gs rfl
  have hne' : v'.ownBlock ≠ some gs := by
    rcases hn with e | ⟨k, e, hk⟩
    · rw [e]; exact hne
    · rw [e]; intro e2; injection e2 with e2; omega
  have hout1 : Own w1 22 1 (.slice (some ⟨gs, 0, none⟩) vs.length vs.length) vs.length vs := h.out.fr hf fun k hk hS => by
    injection hk with hk
    subst hk
    exact hne hS
  have hs := hout1.store i hil v'
  subst hw2
  have hfs : Fr (At1 gs) w1 (w1.setCell ⟨gs, i, none⟩ v') := fr_set _ _ _ _
  have other : ∀ (j : Nat) (u : Value), j ≠ i → vs[j]? = some u → ∀ k, u.ownBlock = some k → ¬ AtO v.ownBlock k := fun j u hj hu k hk hS => h.apart j i u v k hj hu h1 hk hS
  refine ⟨by rw [List.length_set, List.length_set]; exact h.len, fun j u M hu hM => ?_, fun j M hM p hp => ?_, fun j u k hu hk => ?_, fun a b x y k hab hx hy hk => ?_, by rw [List.length_set]; exact hs.1, hB⟩
  · by_cases hj : j = i
    · subst hj
      rw [List.getElem?_set_self hil] at hu
      rw [List.getElem?_set_self (by rw [← h.len]; exact hil)] at hM
      simp only [Option.some.injEq] at hu hM
      subst hu hM
      exact ho.fr hfs fun k hk e => hne' (by rw [hk, show k = gs from e])
    · rw [List.getElem?_set_ne (Ne.symm hj)] at hu hM
      refine ((h.own j u M hu hM).fr hf (other j u hj hu)).fr hfs fun k hk e => h.ne hu hM (by rw [hk, show k = gs from e])
  · have key : ∀ k, RowF B w1 gs (vs.set i v') k → RowF B (w1.setCell ⟨gs, i, none⟩ v') gs (vs.set i v') k := fun k hk => ⟨hk.1, Nat.lt_of_lt_of_le hk.2.1 hfs.size, hk.2.2⟩
    by_cases hj : j = i
    · subst hj
      rw [List.getElem?_set_self (by rw [← h.len]; exact hil)] at hM
      simp only [Option.some.injEq] at hM
      subst hM
      exact (hL p hp).frS hfs (fun k hk _ e => hk.2.2.1 e) key
    · rw [List.getElem?_set_ne (Ne.symm hj)] at hM
      have h3 := h.good j M hM p hp
      have hv : v ∈ vs := List.mem_of_getElem? h1
      have h4 : OvOk w1 (RowF B w1 gs (vs.set i v')) p := h3.frS hf (fun k hk _ hS => hk.2.2.2 v hv hS) fun k hk => by
        refine ⟨hk.1, Nat.lt_of_lt_of_le hk.2.1 hf.size, hk.2.2.1, fun u hu => ?_⟩
        rcases List.mem_or_eq_of_mem_set hu with hu | rfl
        · exact hk.2.2.2 u hu
        · rcases hn with e | ⟨k', e, hk'⟩
          · rw [e]; exact hk.2.2.2 v hv
          · rw [e]; intro e2; injection e2 with e2; have := hk.2.1; omega
      exact h4.frS hfs (fun k hk _ e => hk.2.2.1 e) key
  · by_cases hj : j = i
    · subst hj
      rw [List.getElem?_set_self hil] at hu
      simp only [Option.some.injEq] at hu
      subst hu
      rcases hn with e | ⟨k', e, hk'⟩
      · rw [e] at hk; exact h.new j v k h1 hk
      · rw [e] at hk; injection hk with hk; omega
    · rw [List.getElem?_set_ne (Ne.symm hj)] at hu
      exact h.new j u k hu hk
  · have old : ∀ (a : Nat) (x : Value) (k : Nat), a ≠ i → (vs.set i v')[a]? = some x → x.ownBlock = some k → v'.ownBlock ≠ some k := fun a x k ha hx hk => by
      rw [List.getElem?_set_ne (Ne.symm ha)] at hx
      have hal : a < R.length := by rw [← h.len]; exact (List.getElem?_eq_some_iff.1 hx).1
      rcases hn with e | ⟨k', e, hk'⟩
      · rw [e]; exact h.apart a i x v k ha hx h1 hk
      · rw [e]; intro e2; injection e2 with e2
        have := (h.own a x R[a] hx (List.getElem?_eq_getElem hal)).lt k hk
        omega
    by_cases ha : a = i
    · have hb : b ≠ i := fun e => hab (ha.trans e.symm)
      subst ha
      rw [List.getElem?_set_self hil] at hx
      simp only [Option.some.injEq] at hx
      subst hx
      intro e
      exact old b y k hb hy e hk
    · by_cases hb : b = i
      · subst hb
        rw [List.getElem?_set_self hil] at hy
        simp only [Option.some.injEq] at hy
        subst hy
        exact old a x k ha hx hk
      · rw [List.getElem?_set_ne (Ne.symm ha)] at hx
        rw [List.getElem?_set_ne (Ne.symm hb)] at hy
        exact h.apart a b x y k hab hx hy hk
/-- rows of orders, to be read -/
def StS (w : World) (A : Option Addr) (S : List (List Od)) : Prop :=
  ∃ vs, Rd w (Lt w.heap.size) 1 A S.length vs ∧ vs.length = S.length ∧ ∀ (i : Nat) (v : Value) (s : List Od), vs[i]? = some v → S[i]? = some s → ∃ A' c', v = .slice A' s.length c' ∧ Ls w (Lt w.heap.size) A' c' s
theorem Ls.more {w : World} {F G : Nat → Prop} {A : Option Addr} {c : Nat} {l : List Od} (h : Ls w F A c l) (hF : ∀ k, F k → G k) : Ls w G A c l := ⟨h.ods.more hF, h.n, h.c, h.s⟩
theorem StS.no {w w' : World} {A : Option Addr} {S : List (List Od)} (h : StS w A S) (hf : Fr No w w') : StS w' A S := by
  obtain ⟨vs, hr, hl, hE⟩ := h
  have hlt : ∀ k, Lt w.heap.size k → Lt w'.heap.size k := fun k hk => Nat.lt_of_lt_of_le hk hf.size
  refine ⟨vs, (hr.fr (by omega) hf (fun _ _ _ h => h)).more hlt, hl, fun i v s hv hs => ?_⟩
  obtain ⟨A', c', e, h1⟩ := hE i v s hv hs
  exact ⟨A', c', e, (h1.no hf).more hlt⟩
theorem Rows.sts {B : Nat} {w : World} {gs : Nat} {vs : List Value} {R : List (List Ov)} (h : Rows B w gs vs R) (hn : ∀ L ∈ R, L.length ≤ 1000000) (hs : ∀ L ∈ R, ∀ p ∈ L, p.1.legs.length ≤ 100000) :
    StS w (some ⟨gs, 0, none⟩) (R.map fun L => L.map (·.1)) := by
  have hl := h.len
  refine ⟨vs, ?_, by rw [List.length_map]; exact hl, fun i v s hv hs' => ?_⟩
  · have := h.out.rd.lt (by omega)
    rw [List.length_map, ← hl]
    exact this.more fun k hk => hk.2
  · rw [List.getElem?_map] at hs'
    obtain ⟨L, hL, rfl⟩ := Option.map_eq_some_iff.1 hs'
    have ho := h.own i v L hv hL
    obtain ⟨A', c', rfl, hc1, hc2⟩ := ho.form
    have hmem := List.mem_of_getElem? hL
    refine ⟨A', c', by rw [List.length_map], ⟨⟨ocs L, ?_, ovs_lt (h.good i L hL) fun k hk => hk.2.1⟩, by rw [List.length_map]; exact hn L hmem, by rw [List.length_map]; exact hc1, fun o ho => ?_⟩⟩
    · rw [List.length_map]
      exact (ho.rd.lt (by omega)).more fun k hk => hk.2
    · obtain ⟨p, hp, rfl⟩ := List.mem_map.1 ho
      exact hs L hmem p hp
theorem StS.nil (w : World) : StS w none [] := ⟨[], Rd.none_, rfl, fun i v s hv => by simp at hv⟩
end Go.Proofs.YtnphncemghfkbaaGreat

namespace Go.Proofs.YtnphncemghfkbaaGreat
open Go.RowKit Go.My Go.Maps Go.WideMaps
set_option linter.unusedSimpArgs false
set_option linter.unusedVariables false
attribute [local go_sem ↓] Go.wp_at_zero Go.wp_at_succ

/-- where an Id stands first -/
def atL (L : List Idk) (k : Idk) : Int := match L.findIdx? (fun x => decide (x = k)) with | some i => (i : Int) | none => -1
theorem atL_at {L : List Idk} {k : Idk} {i : Nat} (hi : i < L.length) (h : L[i] = k) (hn : ∀ x ∈ L.take i, x ≠ k) : atL L k = i := by
  unfold atL
  rw [List.findIdx?_eq_some_iff_getElem.2 ⟨hi, decide_eq_true h, fun j hj => by
    have := hn L[j] (List.mem_take_iff_getElem.2 ⟨j, by omega, rfl⟩)
    simp [this]⟩]
theorem atL_none {L : List Idk} {k : Idk} (hn : ∀ x ∈ L, x ≠ k) : atL L k = -1 := by
  unfold atL
  rw [List.findIdx?_eq_none_iff.2 fun x hx => decide_eq_false (hn x hx)]
theorem atL_neg {L : List Idk} {k : Idk} : atL L k < 0 ↔ k ∉ L := by
  unfold atL
  cases h : L.findIdx? (fun x => decide (x = k)) with
  | none =>
    rw [List.findIdx?_eq_none_iff] at h
    simp only
    exact ⟨fun _ hk => by have := h k hk; simp at this, fun _ => by omega⟩
  | some i =>
    obtain ⟨hi, he, _⟩ := List.findIdx?_eq_some_iff_getElem.1 h
    simp only
    exact ⟨fun h => by omega, fun hk => absurd (by rw [← of_decide_eq_true he]; exact List.getElem_mem hi) hk⟩
theorem atL_some {L : List Idk} {k : Idk} {i : Nat} (h : atL L k = i) : L[i]? = some k := by
  unfold atL at h
  cases hf : L.findIdx? (fun x => decide (x = k)) with
  | none => rw [hf] at h; simp only at h; omega
  | some j =>
    rw [hf] at h
    obtain ⟨hi, he, _⟩ := List.findIdx?_eq_some_iff_getElem.1 hf
    have : j = i := by simp only at h; omega
    subst this
    rw [List.getElem?_eq_getElem hi, of_decide_eq_true he]
theorem idsO_getE {l : List Od} {i : Nat} (hi : i < l.length) (h2 : i < (idsO l).length) : (idsO l)[i] = l[i].id := by
  have h := idsO_get l i
  rw [List.getElem?_eq_getElem h2, List.getElem?_eq_getElem hi] at h
  simpa using h
theorem atL_rt {l : List Od} (h : Rt Od.id l) {i : Nat} (hi : i < l.length) : atL (idsO l) l[i].id = i := by
  have hil : i < (idsO l).length := by rw [idsO_length]; exact hi
  have hg : (idsO l)[i] = l[i].id := idsO_getE hi hil
  refine atL_at hil hg fun x hx e => ?_
  obtain ⟨j, hj, rfl⟩ := List.mem_take_iff_getElem.1 hx
  have h1 : j < (idsO l).length := by omega
  have := nodup_inj (L := idsO l) h h1 hil (by rw [hg]; exact e)
  omega
def At10Rel (w : World) (l : List Od) (k : Idk) (iv : Value) (wr : World) : Prop := ∃ n : Nat, n ≤ l.length ∧ iv = .int .i64 n ∧ (∀ x ∈ (idsO l).take n, x ≠ k) ∧ Fr No w wr
set_option maxRecDepth 100000 in
set_option maxHeartbeats 1000000 in
theorem at10_any (w0 w : World) (F : Nat → Prop) (A : Option Addr) (c : Nat) (l : List Od) (a b : Int) (hl : OdsS w0 w F A l) (hn : l.length ≤ 1000000) :
    Calls Tryz.prog 27 #[.slice A l.length c, .agg #[.int .i64 a, .int .i64 b]] w fun e w' => e = .returned (.int .i64 (atL (idsO l) (a, b))) ∧ Fr No w w' := by
  have HL := Lib.hid hl
  have hbx := Blk.new w 44 #[.int .i64 a, .int .i64 b]
  have HBX := Lib.hid hbx
  have HF0 : Hid (Fr No w (w.alloc (.cells #[.int .i64 a, .int .i64 b] 44))) := (Fr.refl _ _).alloc _
  clear hl hbx
  go_enter Tryz.func27, Tryz.ntmps27
  go_upto_region 1 with (fail)
  generalize w.alloc (.cells #[.int .i64 a, .int .i64 b] 44) = w1 at *
  go_wp2
  go_loopw [5] (fun iv wr => At10Rel w1 l (a, b) iv wr) (fun iv _ => l.length - (intOf iv).toNat)
  case atStart => exact ⟨0, Nat.zero_le _, rfl, fun x hx => by simp at hx, Fr.refl _ _⟩
  case round =>
    obtain ⟨k, hk, rfl, hno, hfr⟩ := hrel
    have hk62 : (k : Int) ≤ 1000000 := by omega
    by_cases hlt : k < l.length
    · obtain ⟨ad, v, rfl, _, hok, hg, hL, q0, q1, q2, q3, q4, q5, q6, q7, q8, q9⟩ := (HL.out.fr (HF0.out.trans hfr) (fun _ _ _ h => h)).at_ k hlt
      have hbx := HBX.out.fr hfr (fun h => h)
      have x0 := hbx.cell 0
      have x1 := hbx.cell 1
      simp only [List.getElem?_toArray, List.getElem?_cons_zero, List.getElem?_cons_succ] at x0 x1
      have hil : k < (idsO l).length := by rw [idsO_length]; exact hlt
      have hgi : (idsO l)[k] = (l[k].cl, l[k].sq) := idsO_getE hlt hil
      have HY : Hid ((l[k].cl, l[k].sq) = (a, b) → atL (idsO l) (a, b) = k) := fun e => atL_at hil (hgi.trans e) hno
      have HN : Hid ((l[k].cl, l[k].sq) ≠ (a, b) → ∀ x ∈ (idsO l).take (k + 1), x ≠ (a, b)) := fun e x hx => by
        rw [List.take_succ_eq_append_getElem hil, List.mem_append, List.mem_singleton] at hx
        rcases hx with hx | hx
        · exact hno x hx
        · rw [hx, hgi]; exact e
      have HFR := Lib.hid hfr
      have HLT : Hid (k + 1 ≤ l.length) := hlt
      generalize l[k].cl = cl at *
      generalize l[k].sq = sq at *
      clear q2 q3 q4 q5 q6 q7 q8 q9 hok hg hL hbx hgi hil hno hfr
      by_cases he : cl = a ∧ sq = b
      · obtain ⟨rfl, rfl⟩ := he
        have HY2 := Lib.hid (HY.out rfl)
        clear HY HN
        go_upto_region 4 with (fail)
        go_quiet (fail)
        go_wp2
        go_ret
        exact ⟨by rw [HY2.out]; rfl, (HF0.out.trans HFR.out).drewN _⟩
      · have HN2 := Lib.hid (HN.out (fun e => he ⟨congrArg Prod.fst e, congrArg Prod.snd e⟩))
        have hne := fun W => eq_id cl sq a b W he
        clear HY HN
        go_upto_region 4 with (fail)
        go_quiet (fail)
        go_wp2
        go_roundw
        case rel => exact ⟨k + 1, HLT.out, by go_num, HN2.out, HFR.out.drewN _⟩
        case measure => have := HLT.out; simp [intOf]; omega
    · obtain rfl : k = l.length := by omega
      have HE : Hid (atL (idsO l) (a, b) = -1) := atL_none fun x hx => hno x (by rw [List.take_of_length_le (by rw [idsO_length]; omega)]; exact hx)
      clear hno
      go_wp2
      go_ret
      exact ⟨by rw [HE.out]; rfl, HF0.out.trans hfr⟩

/-- those whose Id wasn't there ahead -/
def ownT (l : List Od) : Nat → List Od
  | 0 => []
  | k + 1 => ownT l k ++ match l[k]? with | some o => (if atL (idsO l) o.id = (k : Int) then [o] else []) | none => []
def ownO (l : List Od) : List Od := ownT l l.length
theorem mem_ownT {l : List Od} : ∀ {k : Nat} {o : Od}, o ∈ ownT l k → ∃ i, i < k ∧ l[i]? = some o ∧ atL (idsO l) o.id = (i : Int)
  | 0, o, h => by cases h
  | k + 1, o, h => by
    unfold ownT at h
    rcases List.mem_append.1 h with h | h
    · obtain ⟨i, h1, h2⟩ := mem_ownT h
      exact ⟨i, by omega, h2⟩
    · cases hk : l[k]? with
      | none => rw [hk] at h; cases h
      | some x =>
        rw [hk] at h
        simp only at h
        split at h
        · rename_i he
          rw [List.mem_singleton] at h
          subst h
          exact ⟨k, by omega, hk, he⟩
        · cases h
theorem ownT_rt (l : List Od) : ∀ k, Rt Od.id (ownT l k)
  | 0 => Rt.nil
  | k + 1 => by
    have ih := ownT_rt l k
    unfold ownT
    cases hk : l[k]? with
    | none => simpa using ih
    | some x =>
      simp only
      split
      · rename_i he
        unfold Rt at ih ⊢
        rw [List.map_append, List.nodup_append]
        refine ⟨ih, by simp, fun a ha b hb e => ?_⟩
        simp only [List.map_cons, List.map_nil, List.mem_singleton] at hb
        obtain ⟨o, ho, rfl⟩ := List.mem_map.1 ha
        obtain ⟨i, h1, _, h2⟩ := mem_ownT ho
        rw [e, hb, he] at h2
        omega
      · simpa using ih
theorem own_rt (l : List Od) : Rt Od.id (ownO l) := ownT_rt l _
theorem mem_own {l : List Od} {o : Od} (h : o ∈ ownO l) : o ∈ l := by
  obtain ⟨i, _, h, _⟩ := mem_ownT h
  exact List.mem_of_getElem? h
theorem ownT_len (l : List Od) : ∀ k, (ownT l k).length ≤ k
  | 0 => Nat.le_refl _
  | k + 1 => by
    have ih := ownT_len l k
    unfold ownT
    rw [List.length_append]
    cases hk : l[k]? with
    | none => simp; omega
    | some x => simp only; split <;> simp <;> omega
def OwRel (w0 w : World) (l : List Od) (lv iv : Value) (wr : World) : Prop := ∃ k : Nat, k ≤ l.length ∧ iv = .int .i64 k ∧ OwnO w0 wr lv (ownT l k) ∧ Fr No w wr ∧ Newer w.heap.size none lv.ownBlock
set_option maxRecDepth 100000 in
set_option maxHeartbeats 1000000 in
theorem own10_any (w0 w : World) (F : Nat → Prop) (A : Option Addr) (c : Nat) (l : List Od) (hl : OdsS w0 w F A l) (hn : l.length ≤ 1000000) :
    Calls Tryz.prog 23 #[.slice A l.length c] w (FewRet w0 w (ownO l)) := by
  have HL := Lib.hid hl
  have HAT : Hid (∀ W a b, Fr No w W → Calls Tryz.prog 27 #[.slice A l.length c, .agg #[.int .i64 a, .int .i64 b]] W fun e w' => e = .returned (.int .i64 (atL (idsO l) (a, b))) ∧ Fr No W w') := fun W a b hW => at10_any w0 W F A c l a b (hl.fr hW (fun _ _ _ h => h)) hn
  clear hl
  go_enter Tryz.func23, Tryz.ntmps23
  go_wp2
  go_loopw [3, 4] (fun lv iv wr => OwRel w0 w l lv iv wr) (fun _ iv _ => l.length - (intOf iv).toNat)
  case atStart => exact ⟨0, Nat.zero_le _, rfl, OwnO.nil _ _, Fr.refl _ _, .inl rfl⟩
  case round =>
    obtain ⟨k, hk, rfl, hown, hfr, hnew⟩ := hrel
    have hk62 : (k : Int) ≤ 1000000 := by omega
    by_cases hlt : k < l.length
    · obtain ⟨ad, v, rfl, _, hok, hg, hL, q0, q1, q2, q3, q4, q5, q6, q7, q8, q9⟩ := (HL.out.fr hfr (fun _ _ _ h => h)).at_ k hlt
      obtain ⟨B, d, rfl, hd1, hd2⟩ := hL.form
      have HTK : Hid (ownT l (k + 1) = ownT l k ++ if atL (idsO l) (l[k].cl, l[k].sq) = (k : Int) then [l[k]] else []) := by
        show _ = _
        conv => lhs; unfold ownT
        rw [List.getElem?_eq_getElem hlt]
        rfl
      have HO : Hid (OdR w0 [.int .i64 l[k].cl, .int .i64 l[k].sq, .int .i64 l[k].kd, .string l[k].acct, .string l[k].peer, .int .i64 l[k].sum, .slice B l[k].legs.length d, .int .i64 l[k].per, .int .i64 l[k].hold, .string l[k].note] l[k]) := ⟨_, rfl, hok, hg, hL⟩
      have HLK : Hid ((ownT l k).length ≤ k) := ownT_len l k
      have HFR := Lib.hid hfr
      have HNW := Lib.hid hnew
      have HLT : Hid (k + 1 ≤ l.length) := hlt
      have HOWN := Lib.hid hown
      obtain ⟨cells, ho, hE⟩ := hown
      have HOO := Lib.hid ho
      have HE := Lib.hid hE
      generalize l[k].legs.length = Ln at *
      generalize l[k].cl = cl at *
      generalize l[k].sq = sq at *
      generalize l[k].kd = kd at *
      generalize l[k].acct = acct at *
      generalize l[k].peer = peer at *
      generalize l[k].sum = sum at *
      generalize l[k].per = per at *
      generalize l[k].hold = hold at *
      generalize l[k].note = note at *
      generalize l[k] = ok_ at *
      clear hok hg hL ho hE hfr hnew
      have HAK := Lib.hid (HAT.out wr cl sq HFR.out)
      generalize ownT l k = lk at *
      by_cases he : atL (idsO l) (cl, sq) = (k : Int)
      · rw [he] at HAK HTK
        have HTK2 : Hid (ownT l (k + 1) = lk ++ [ok_]) := by show _ = _; rw [HTK.out, if_pos rfl]
        clear HTK he
        go_wp2_with fail
        (with_reducible refine HAK.out.mono ?_)
        rintro e w1 ⟨rfl, hf1⟩
        have HR : Hid (∀ p v, wr.cell? p = some v → w1.cell? p = some v) := fun p v h => hf1.cell_some h (fun h => h)
        have r0 := HR.out _ _ q0
        have r1 := HR.out _ _ q1
        have r2 := HR.out _ _ q2
        have r3 := HR.out _ _ q3
        have r4 := HR.out _ _ q4
        have r5 := HR.out _ _ q5
        have r6 := HR.out _ _ q6
        have r7 := HR.out _ _ q7
        have r8 := HR.out _ _ q8
        have r9 := HR.out _ _ q9
        have HF1 := Lib.hid hf1
        clear q0 q1 q2 q3 q4 q5 q6 q7 q8 q9 hf1 HR
        go_wp2_with (at_builtin; refine wpList_app _ rfl (.tmp 20) (.tmp 25) 22 22 rfl elO ((HOO.out.fr HF1.out (fun _ _ h => h)).alloc _) rfl (Src.of_new (cs := #[.int .i64 cl, .int .i64 sq, .int .i64 kd, .string acct, .string peer, .int .i64 sum, .slice B Ln d, .int .i64 per, .int .i64 hold, .string note]) (t := 47) w1.heap.size (heap_alloc_new w1 _) Tryz.underlying22 rfl (by simp [Value.oneCell'])) rfl (by have := HLK.out; simp only [maxLen]; omega) (by have := HLK.out; omega) ?_; intro v1 w3 hown3 hfr3 hnew3)
        go_roundw
        case rel =>
          refine ⟨k + 1, HLT.out, by go_num, ?_, ?_, ?_⟩
          · rw [HTK2.out]
            exact ⟨_, by rw [List.length_append]; exact hown3, Each.snocO HE.out rfl HO.out⟩
          · refine ((HFR.out.trans HF1.out).alloc _).trans' hfr3 fun i hi hlt => ?_
            have hi : _ = some i := hi
            have := newer_none HNW.out i hi
            omega
          · refine HNW.out.trans (Newer.of hnew3) ?_
            rw [World.size_alloc]
            have h1 := HF1.out.size
            have := HFR.out.size
            omega
        case measure => have := HLT.out; simp [intOf]; omega
      · have HTK2 : Hid (ownT l (k + 1) = lk) := by show _ = _; rw [HTK.out, if_neg he, List.append_nil]
        have hbe : (atL (idsO l) (cl, sq) == (k : Int)) = false := beq_eq_false_iff_ne.2 he
        generalize atL (idsO l) (cl, sq) = at_ at *
        clear HTK he
        go_wp2_with fail
        (with_reducible refine HAK.out.mono ?_)
        rintro e w1 ⟨rfl, hf1⟩
        clear q0 q1 q2 q3 q4 q5 q6 q7 q8 q9
        have HF1 := Lib.hid hf1
        clear hf1
        go_wp2
        go_roundw
        case rel =>
          refine ⟨k + 1, HLT.out, by go_num, ?_, HFR.out.trans HF1.out, HNW.out⟩
          rw [HTK2.out]
          exact ⟨cells, HOO.out.fr HF1.out (fun _ _ h => h), HE.out⟩
        case measure => have := HLT.out; simp [intOf]; omega
    · obtain rfl : k = l.length := by omega
      obtain ⟨A1, c1, rfl, hl1, hm1⟩ := OwnO.form hown
      have HR := Lib.hid (OwnO.ret hown hfr hnew)
      go_wp2
      go_ret
      exact ⟨_, _, rfl, HR.out, hl1, hm1, hfr⟩
end Go.Proofs.YtnphncemghfkbaaGreat

namespace Go.Proofs.YtnphncemghfkbaaGreat
open Go.RowKit Go.My Go.Maps
set_option linter.unusedSimpArgs false
set_option linter.unusedVariables false
attribute [local go_sem ↓] Go.wp_at_zero Go.wp_at_succ

theorem neq_id (a b c d : Int) (W : World) (h : ¬ (a = c ∧ b = d)) : (binOp .neq 44 (.agg #[.int .i64 a, .int .i64 b]) (.agg #[.int .i64 c, .int .i64 d])).run Tryz.prog W = .ok (.bool true) W := by
  simp [go_sem]
  intro h1
  exact fun h2 => h ⟨h1, h2⟩
theorem eqO_ne {o r : Od} (h : o ≠ r) : eqO o r = false := by
  cases hq : eqO o r with
  | false => rfl
  | true => exact absurd ((eqO_iff _ _).1 hq) h
set_option maxRecDepth 100000 in
set_option maxHeartbeats 8000000 in
theorem refsameO_any (F G : Nat → Prop) (o r : Od) (v u : Value) (w : World) (hv : LgS w F v o.legs) (hu : LgS w G u r.legs) :
    Calls Tryz.prog 44 #[o.val v, r.val u] w fun e w' => e = .returned (.bool (eqO o r)) ∧ Fr No w w' := by
  obtain ⟨acl, asq, akd, aac, ape, asm, alg, apr, ahd, ant⟩ := o
  obtain ⟨bcl, bsq, bkd, bac, bpe, bsm, blg, bpr, bhd, bnt⟩ := r
  unfold Od.val Od.cs
  have hv0 := hv
  have hu0 := hu
  obtain ⟨aA, aC, rfl, alc, acm⟩ := hv0.form
  obtain ⟨bA, bC, rfl, blc, bcm⟩ := hu0.form
  simp only at hv hu alc blc ⊢
  clear hv0 hu0
  have hpa := (Blk.new w 47 #[.int .i64 acl, .int .i64 asq, .int .i64 akd, .string aac, .string ape, .int .i64 asm, .slice aA alg.length aC, .int .i64 apr, .int .i64 ahd, .string ant]).alloc (.cells #[.int .i64 bcl, .int .i64 bsq, .int .i64 bkd, .string bac, .string bpe, .int .i64 bsm, .slice bA blg.length bC, .int .i64 bpr, .int .i64 bhd, .string bnt] 47)
  have hpb := Blk.new (w.alloc (.cells #[.int .i64 acl, .int .i64 asq, .int .i64 akd, .string aac, .string ape, .int .i64 asm, .slice aA alg.length aC, .int .i64 apr, .int .i64 ahd, .string ant] 47)) 47 #[.int .i64 bcl, .int .i64 bsq, .int .i64 bkd, .string bac, .string bpe, .int .i64 bsm, .slice bA blg.length bC, .int .i64 bpr, .int .i64 bhd, .string bnt]
  rw [World.size_alloc] at hpb
  have hf0 : Fr No w ((w.alloc (.cells #[.int .i64 acl, .int .i64 asq, .int .i64 akd, .string aac, .string ape, .int .i64 asm, .slice aA alg.length aC, .int .i64 apr, .int .i64 ahd, .string ant] 47)).alloc (.cells #[.int .i64 bcl, .int .i64 bsq, .int .i64 bkd, .string bac, .string bpe, .int .i64 bsm, .slice bA blg.length bC, .int .i64 bpr, .int .i64 bhd, .string bnt] 47)) := ((Fr.refl _ _).alloc _).alloc _
  have hlv := hv.no hf0
  have hlu := hu.no hf0
  clear hv hu
  generalize hEQ : eqO ⟨acl, asq, akd, aac, ape, asm, alg, apr, ahd, ant⟩ ⟨bcl, bsq, bkd, bac, bpe, bsm, blg, bpr, bhd, bnt⟩ = res at *
  go_enter Tryz.func44, Tryz.ntmps44
  go_upto_region 1 with (fail)
  generalize ((w.alloc (.cells #[.int .i64 acl, .int .i64 asq, .int .i64 akd, .string aac, .string ape, .int .i64 asm, .slice aA alg.length aC, .int .i64 apr, .int .i64 ahd, .string ant] 47)).alloc (.cells #[.int .i64 bcl, .int .i64 bsq, .int .i64 bkd, .string bac, .string bpe, .int .i64 bsm, .slice bA blg.length bC, .int .i64 bpr, .int .i64 bhd, .string bnt] 47)) = w2 at *
  have x0 := hpa.cell 0
  have x1 := hpa.cell 1
  have x2 := hpa.cell 2
  have x3 := hpa.cell 3
  have x4 := hpa.cell 4
  have x5 := hpa.cell 5
  have x6 := hpa.cell 6
  have x7 := hpa.cell 7
  have x8 := hpa.cell 8
  have x9 := hpa.cell 9
  simp only [List.getElem?_toArray, List.getElem?_cons_zero, List.getElem?_cons_succ] at x0 x1 x2 x3 x4 x5 x6 x7 x8 x9
  have y0 := hpb.cell 0
  have y1 := hpb.cell 1
  have y2 := hpb.cell 2
  have y3 := hpb.cell 3
  have y4 := hpb.cell 4
  have y5 := hpb.cell 5
  have y6 := hpb.cell 6
  have y7 := hpb.cell 7
  have y8 := hpb.cell 8
  have y9 := hpb.cell 9
  simp only [List.getElem?_toArray, List.getElem?_cons_zero, List.getElem?_cons_succ] at y0 y1 y2 y3 y4 y5 y6 y7 y8 y9
  have HF := Lib.hid hf0
  clear hf0 hpa hpb
  by_cases h2 : acl = bcl ∧ asq = bsq
  rotate_left
  · obtain rfl : res = false := by
      rw [← hEQ]
      apply eqO_ne
      intro h
      simp only [Od.mk.injEq] at h
      exact h2 ⟨h.1, h.2.1⟩
    have hne := fun W => neq_id acl asq bcl bsq W h2
    clear hEQ h2 hlv hlu
    go_wp2
    go_ret
    exact ⟨rfl, HF.out⟩
  obtain ⟨rfl, rfl⟩ := h2
  by_cases h2 : akd = bkd
  rotate_left
  · obtain rfl : res = false := by
      rw [← hEQ]
      apply eqO_ne
      intro h
      simp only [Od.mk.injEq] at h
      exact h2 (by simp only [h])
    have hz : (akd != bkd) = true := bne_iff_ne.2 h2
    have hz2 : (akd == bkd) = false := beq_eq_false_iff_ne.2 h2
    clear hEQ h2 hlv hlu
    go_wp2
    go_ret
    exact ⟨rfl, HF.out⟩
  subst h2
  by_cases h2 : aac.data.toList = bac.data.toList
  rotate_left
  · obtain rfl : res = false := by
      rw [← hEQ]
      apply eqO_ne
      intro h
      simp only [Od.mk.injEq] at h
      exact h2 (by simp only [h])
    have hz2 : (aac.toList == bac.toList) = false := by rw [ByteArray.toList_eq, ByteArray.toList_eq]; exact beq_eq_false_iff_ne.2 h2
    have hz : (aac.toList != bac.toList) = true := by rw [bne, hz2]; rfl
    clear hEQ h2 hlv hlu
    go_wp2
    go_ret
    exact ⟨rfl, HF.out⟩
  obtain rfl := bytes_ext h2
  clear h2
  by_cases h2 : ape.data.toList = bpe.data.toList
  rotate_left
  · obtain rfl : res = false := by
      rw [← hEQ]
      apply eqO_ne
      intro h
      simp only [Od.mk.injEq] at h
      exact h2 (by simp only [h])
    have hz2 : (ape.toList == bpe.toList) = false := by rw [ByteArray.toList_eq, ByteArray.toList_eq]; exact beq_eq_false_iff_ne.2 h2
    have hz : (ape.toList != bpe.toList) = true := by rw [bne, hz2]; rfl
    clear hEQ h2 hlv hlu
    go_wp2
    go_ret
    exact ⟨rfl, HF.out⟩
  obtain rfl := bytes_ext h2
  clear h2
  by_cases h2 : asm = bsm
  rotate_left
  · obtain rfl : res = false := by
      rw [← hEQ]
      apply eqO_ne
      intro h
      simp only [Od.mk.injEq] at h
      exact h2 (by simp only [h])
    have hz : (asm != bsm) = true := bne_iff_ne.2 h2
    have hz2 : (asm == bsm) = false := beq_eq_false_iff_ne.2 h2
    clear hEQ h2 hlv hlu
    go_wp2
    go_ret
    exact ⟨rfl, HF.out⟩
  subst h2
  by_cases h2 : apr = bpr
  rotate_left
  · obtain rfl : res = false := by
      rw [← hEQ]
      apply eqO_ne
      intro h
      simp only [Od.mk.injEq] at h
      exact h2 (by simp only [h])
    have hz : (apr != bpr) = true := bne_iff_ne.2 h2
    have hz2 : (apr == bpr) = false := beq_eq_false_iff_ne.2 h2
    clear hEQ h2 hlv hlu
    go_wp2
    go_ret
    exact ⟨rfl, HF.out⟩
  subst h2
  by_cases h2 : ahd = bhd
  rotate_left
  · obtain rfl : res = false := by
      rw [← hEQ]
      apply eqO_ne
      intro h
      simp only [Od.mk.injEq] at h
      exact h2 (by simp only [h])
    have hz : (ahd != bhd) = true := bne_iff_ne.2 h2
    have hz2 : (ahd == bhd) = false := beq_eq_false_iff_ne.2 h2
    clear hEQ h2 hlv hlu
    go_wp2
    go_ret
    exact ⟨rfl, HF.out⟩
  subst h2
  by_cases h2 : ant.data.toList = bnt.data.toList
  rotate_left
  · obtain rfl : res = false := by
      rw [← hEQ]
      apply eqO_ne
      intro h
      simp only [Od.mk.injEq] at h
      exact h2 (by simp only [h])
    have hz2 : (ant.toList == bnt.toList) = false := by rw [ByteArray.toList_eq, ByteArray.toList_eq]; exact beq_eq_false_iff_ne.2 h2
    have hz : (ant.toList != bnt.toList) = true := by rw [bne, hz2]; rfl
    clear hEQ h2 hlv hlu
    go_wp2
    go_ret
    exact ⟨rfl, HF.out⟩
  obtain rfl := bytes_ext h2
  clear h2
  by_cases h2 : alg.length = blg.length
  rotate_left
  · obtain rfl : res = false := by
      rw [← hEQ]
      apply eqO_ne
      intro h
      simp only [Od.mk.injEq] at h
      exact h2 (by simp only [h])
    have hz : ((alg.length : Int) != (blg.length : Int)) = true := by rw [bne_iff_ne]; omega
    clear hEQ h2 hlv hlu
    go_wp2
    go_ret
    exact ⟨rfl, HF.out⟩
  have HL := Lib.hid h2
  have hz : ((alg.length : Int) != (blg.length : Int)) = false := by rw [bne_eq_false_iff_eq]; omega
  clear h2
  have HEQ := Lib.hid hEQ
  obtain ⟨A', c', cA, e1, hA, eA, _, _⟩ := hlv
  cases e1
  obtain ⟨B', d', cB, e2, hB, eB, _, _⟩ := hlu
  cases e2
  have HA := Lib.hid hA
  have HB := Lib.hid hB
  have EA := Lib.hid eA
  have EB := Lib.hid eB
  clear hA hB eA eB hEQ
  go_wp2
  go_loopw [5] (fun iv wr => ∃ k j : Nat, k ≤ alg.length ∧ iv = .int .i64 k ∧ alg.take k = blg.take k ∧ wr = w2.drewN j) (fun iv _ => alg.length - (intOf iv).toNat)
  case atStart => exact ⟨0, 0, Nat.zero_le _, rfl, rfl, rfl⟩
  case round =>
    obtain ⟨k, j, hk, rfl, heq, rfl⟩ := hrel
    have HE := Lib.hid heq
    clear heq
    by_cases hlt : k < alg.length
    · have hlt2 : k < blg.length := by have := HL.out; omega
      obtain ⟨ad, rfl, _, hok1, p0, p1⟩ := lg_at HA.out EA.out k hlt hlt
      obtain ⟨bd, rfl, _, hok2, q0, q1⟩ := lg_at HB.out EB.out k hlt2 hlt2
      have e1 : alg.take (k + 1) = alg.take k ++ [alg[k]] := List.take_succ_eq_append_getElem hlt
      have e2 : blg.take (k + 1) = blg.take k ++ [blg[k]] := List.take_succ_eq_append_getElem hlt2
      have hk62 : (k : Int) < 9223372036854775807 := by unfold maxLen at acm; omega
      by_cases hxy : alg[k] = blg[k]
      · have E : Hid (alg.take (k + 1) = blg.take (k + 1)) := by show _ = _; rw [e1, e2, HE.out, hxy]
        rw [← hxy] at q0 q1
        clear e1 e2 hxy hok1 hok2
        generalize alg[k].acct = n1 at *
        generalize alg[k].sum = v1 at *
        go_wp2
        go_quiet (fail)
        go_wp2
        go_roundw
        case rel => exact ⟨k + 1, _, by omega, by go_num, E.out, rfl⟩
        case measure => simp [intOf]; omega
      · obtain rfl : res = false := by
          rw [← HEQ.out]
          apply eqO_ne
          intro h
          simp only [Od.mk.injEq] at h
          have h3 : alg = blg := by simp only [h]
          subst h3
          exact hxy rfl
        have hne := fun W => neq_lg alg[k] blg[k] W hxy
        clear e1 e2 hxy hok1 hok2
        generalize alg[k].acct = n1 at *
        generalize alg[k].sum = v1 at *
        generalize blg[k].acct = m1 at *
        generalize blg[k].sum = u1 at *
        go_wp2
        go_quiet (fail)
        go_wp2
        go_ret
        exact ⟨rfl, (HF.out.drewN _).drewN _⟩
    · have hkl : k = alg.length := by omega
      subst hkl
      have h1 := HE.out
      rw [List.take_length, HL.out, List.take_length] at h1
      obtain rfl : res = true := by
        rw [← HEQ.out, eqO_iff]
        simp only [Od.mk.injEq]
        simp [h1]
      clear h1
      go_wp2
      go_ret
      exact ⟨rfl, HF.out.drewN _⟩
end Go.Proofs.YtnphncemghfkbaaGreat

namespace Go.Proofs.YtnphncemghfkbaaGreat
open Go.RowKit Go.My Go.Maps Go.WideMaps
set_option linter.unusedSimpArgs false
set_option linter.unusedVariables false
attribute [local go_sem ↓] Go.wp_at_zero Go.wp_at_succ

def SmRel (w : World) (n : Nat) (iv : Value) (wr : World) : Prop := ∃ k : Nat, k ≤ n ∧ iv = .int .i64 k ∧ Fr No w wr
set_option maxRecDepth 100000 in
set_option maxHeartbeats 1000000 in
theorem same10_eq (w : World) (F G : Nat → Prop) (A B : Option Addr) (c d : Nat) (l : List Od) (ha : Ls w F A c l) (hb : Ls w G B d l) :
    Calls Tryz.prog 18 #[.slice A l.length c, .slice B l.length d] w fun e w' => e = .returned (.bool true) ∧ Fr No w w' := by
  have HA := Lib.hid ha
  have HB := Lib.hid hb
  have hn := ha.n
  clear ha hb
  go_enter Tryz.func18, Tryz.ntmps18
  go_wp2
  go_loopw [5] (fun iv wr => SmRel w l.length iv wr) (fun iv _ => l.length - (intOf iv).toNat)
  case atStart => exact ⟨0, Nat.zero_le _, rfl, Fr.refl _ _⟩
  case round =>
    obtain ⟨k, hk, rfl, hfr⟩ := hrel
    have hk62 : (k : Int) ≤ 1000000 := by omega
    by_cases hlt : k < l.length
    · obtain ⟨ad, v, rfl, _, hok, hg, hL, q0, q1, q2, q3, q4, q5, q6, q7, q8, q9⟩ := (HA.out.no hfr).ods.at_ k hlt
      obtain ⟨bd, u, rfl, _, hok2, hg2, hM, r0, r1, r2, r3, r4, r5, r6, r7, r8, r9⟩ := (HB.out.no hfr).ods.at_ k hlt
      obtain ⟨vA, vc, rfl, -, -⟩ := hL.form
      obtain ⟨uA, uc, rfl, -, -⟩ := hM.form
      have HS : Hid (∀ W, Fr No wr W → Calls Tryz.prog 44 #[l[k].val (.slice vA l[k].legs.length vc), l[k].val (.slice uA l[k].legs.length uc)] W fun e w' => e = .returned (.bool true) ∧ Fr No W w') := fun W hW => by
        have h := refsameO_any _ _ l[k] l[k] _ _ W (hL.no hW) (hM.no hW)
        rw [(eqO_iff _ _).2 rfl] at h
        exact h
      unfold Od.val Od.cs at HS
      simp only [List.toArray] at HS
      have HFR := Lib.hid hfr
      have HLT : Hid (k + 1 ≤ l.length) := hlt
      have hkl : (k : Int) < l.length := by omega
      clear hok hg hL hok2 hg2 hM hfr
      generalize l[k].legs.length = vn at *
      generalize l[k].cl = cl at *
      generalize l[k].sq = sq at *
      generalize l[k].kd = kd at *
      generalize l[k].acct = acct at *
      generalize l[k].peer = peer at *
      generalize l[k].sum = sum at *
      generalize l[k].per = per at *
      generalize l[k].hold = hold at *
      generalize l[k].note = note at *
      have xa0 := fun x : WIn (Fr No wr) => x.h.cell_some q0 (fun h => h)
      have xb0 := fun x : WIn (Fr No wr) => x.h.cell_some r0 (fun h => h)
      have xa1 := fun x : WIn (Fr No wr) => x.h.cell_some q1 (fun h => h)
      have xb1 := fun x : WIn (Fr No wr) => x.h.cell_some r1 (fun h => h)
      have xa2 := fun x : WIn (Fr No wr) => x.h.cell_some q2 (fun h => h)
      have xb2 := fun x : WIn (Fr No wr) => x.h.cell_some r2 (fun h => h)
      have xa3 := fun x : WIn (Fr No wr) => x.h.cell_some q3 (fun h => h)
      have xb3 := fun x : WIn (Fr No wr) => x.h.cell_some r3 (fun h => h)
      have xa4 := fun x : WIn (Fr No wr) => x.h.cell_some q4 (fun h => h)
      have xb4 := fun x : WIn (Fr No wr) => x.h.cell_some r4 (fun h => h)
      have xa5 := fun x : WIn (Fr No wr) => x.h.cell_some q5 (fun h => h)
      have xb5 := fun x : WIn (Fr No wr) => x.h.cell_some r5 (fun h => h)
      have xa6 := fun x : WIn (Fr No wr) => x.h.cell_some q6 (fun h => h)
      have xb6 := fun x : WIn (Fr No wr) => x.h.cell_some r6 (fun h => h)
      have xa7 := fun x : WIn (Fr No wr) => x.h.cell_some q7 (fun h => h)
      have xb7 := fun x : WIn (Fr No wr) => x.h.cell_some r7 (fun h => h)
      have xa8 := fun x : WIn (Fr No wr) => x.h.cell_some q8 (fun h => h)
      have xb8 := fun x : WIn (Fr No wr) => x.h.cell_some r8 (fun h => h)
      have xa9 := fun x : WIn (Fr No wr) => x.h.cell_some q9 (fun h => h)
      have xb9 := fun x : WIn (Fr No wr) => x.h.cell_some r9 (fun h => h)
      clear q0 r0 q1 r1 q2 r2 q3 r3 q4 r4 q5 r5 q6 r6 q7 r7 q8 r8 q9 r9
      have hne : Nonempty (WIn (Fr No wr)) := ⟨⟨_, Fr.refl _ _⟩⟩
      go_upto_region 6 with (fail)
      refine wp_region_in (D := Fr No wr) (by kernel_rfl) (by kernel_rfl) (Fr.refl _ _).drew ?_
      repeat (go_big_quiet_step ((first | (go_at_call 44; refine Calls.in_of (v := .bool true) _ fun W hW => ?_; (with_reducible refine (HS.out W hW).mono ?_); exact fun _ _ h => ⟨h.1, Fr.trans hW h.2⟩))))
      refine wpQuiet_nil ?_
      rintro _ ⟨⟨w2, hq2⟩, rfl⟩
      clear xa0 xa1 xa2 xa3 xa4 xa5 xa6 xa7 xa8 xa9 xb0 xb1 xb2 xb3 xb4 xb5 xb6 xb7 xb8 xb9
      go_wp2
      go_roundw
      case rel => exact ⟨k + 1, HLT.out, by go_num, HFR.out.trans hq2⟩
      case measure => have := HLT.out; simp [intOf]; omega
    · obtain rfl : k = l.length := by omega
      go_wp2
      go_ret
      exact ⟨rfl, hfr⟩
theorem OdsS.up {w0 w : World} {F : Nat → Prop} {A : Option Addr} {l : List Od} (h : OdsS w0 w F A l) (hf : Fr No w0 w) : OdsS w w F A l := by
  obtain ⟨cells, hr, hE⟩ := h
  exact ⟨cells, hr, each_imp hE fun cs o ⟨v, h1, h2, h3, h4⟩ => ⟨v, h1, h2, h3, (h4.no hf).more fun k hk => Nat.lt_of_lt_of_le hk hf.size⟩⟩
theorem few_s {l : List Od} {n : Nat} : ∀ o ∈ fewO l n, o.legs.length ≤ 100000 := fun o ho => by
  unfold fewO at ho
  obtain ⟨x, _, rfl⟩ := List.mem_map.1 ho
  unfold Od.few8
  simp only [List.length_take]
  omega
/-- the list that a law speaks of -/
def lawL (l : List Od) (n : Nat) : List Od := ownO (fewO l n)
theorem lawL_len (l : List Od) (n : Nat) : (lawL l n).length ≤ n := by
  have h1 := ownT_len (fewO l n) (fewO l n).length
  have h2 := fewO_length l n
  show (ownO (fewO l n)).length ≤ n
  unfold ownO
  omega
theorem lawL_rt (l : List Od) (n : Nat) : Rt Od.id (lawL l n) := own_rt _
theorem lawL_s (l : List Od) (n : Nat) : ∀ o ∈ lawL l n, o.legs.length ≤ 100000 := fun o ho => few_s o (mem_own ho)
theorem lawL_ls {w0 w : World} {F : Nat → Prop} {A : Option Addr} {c n : Nat} {l : List Od} (h : OdsS w0 w F A (lawL l n)) (hf : Fr No w0 w) (hc : (lawL l n).length ≤ c) (hn : n ≤ 1000) : Ls w Tr A c (lawL l n) :=
  ⟨(h.up hf).more fun _ _ => trivial, by have := lawL_len l n; omega, hc, lawL_s l n⟩
/-- no orders -/
theorem Ls.nil (w : World) (c : Nat) : Ls w Tr none c [] := ⟨⟨[], Rd.none_, ⟨rfl, fun i x hx => by simp at hx⟩⟩, by simp, by simp, fun o ho => by cases ho⟩
theorem begins_refl {a : List Od} (h : Rt Od.id a) : beginsB a a = true := (beginsB_iff _ _).2 (Bg.refl h)
theorem begins_nil {a : List Od} (h : Rt Od.id a) : beginsB [] a = true := (beginsB_iff _ _).2 (Bg.nil h)
theorem rest_nil {b : List Od} (h : Rt Od.id b) : restO [] b = b := by
  unfold restO
  rw [begins_nil h, if_pos rfl]
  exact others_nil b
theorem rest_self {b : List Od} (h : Rt Od.id b) : restO b b = [] := by
  unfold restO
  rw [begins_refl h, if_pos rfl]
  exact others_self b
theorem rest_len {a b : List Od} (h : beginsB a b = true) : a.length + (restO a b).length = b.length := by
  have h1 := (Bg.rest clashB_comm ((beginsB_iff _ _).1 h)).1
  unfold restO
  rw [if_pos h]
  rw [List.length_append] at h1
  exact h1
theorem mem_rest {a b : List Od} {o : Od} (h : o ∈ restO a b) : o ∈ b ∧ o.id ∉ idsO a := by
  unfold restO at h
  split at h
  · exact mem_others.1 h
  · cases h
end Go.Proofs.YtnphncemghfkbaaGreat

namespace Go.Proofs.YtnphncemghfkbaaGreat
open Go.RowKit Go.My Go.Maps Go.WideMaps
set_option linter.unusedSimpArgs false
set_option linter.unusedVariables false
attribute [local go_sem ↓] Go.wp_at_zero Go.wp_at_succ

theorem StS.at_ {w : World} {A : Option Addr} {S : List (List Od)} (h : StS w A S) (i : Nat) (hi : i < S.length) : ∃ ad A' c', A = some ad ∧ w.cell? (ad.add i) = some (.slice A' S[i].length c') ∧ Ls w (Lt w.heap.size) A' c' S[i] := by
  obtain ⟨vs, h1, hl, h2⟩ := h
  obtain ⟨ad, u, rfl, _, h5, h6⟩ := h1.at_ hi
  obtain ⟨A', c', e, h4⟩ := h2 i u S[i] h5 (List.getElem?_eq_getElem hi)
  subst e
  exact ⟨ad, A', c', rfl, h6, h4⟩
set_option maxRecDepth 100000 in
set_option maxHeartbeats 1000000 in
theorem growO_any (n : Nat) (w : World) (hn : n ≤ 100000) :
    Calls Tryz.prog 73 #[.slice none 0 0, .int .i64 n] w (RetOwn w 47 10 none 0 []) := by
  by_cases h0 : 0 < n
  · have hX : Hid (n ≤ maxLen ∧ n * 120 ≤ 140737488355328) := by
      refine ⟨?_, ?_⟩ <;> (try simp only [maxLen]) <;> omega
    go_enter Tryz.func73, Tryz.ntmps73
    go_wp2_with (at_builtin; refine wpList_app_make _ rfl (.tmp 20) (.tmp 21) 22 3 rfl elO Tryz.underlying3 n h0 rfl rfl hX.out.1 hX.out.2 ?_; intro cap w1 xs hown hfr hc1 hc2)
    go_ret
    exact ⟨_, rfl, hown.zero, hfr.mono (fun _ _ h => False.elim h), .inr ⟨_, rfl, Nat.le_refl _⟩⟩
  · obtain rfl : n = 0 := by omega
    go_enter Tryz.func73, Tryz.ntmps73
    go_wp2
    go_ret
    exact ⟨_, rfl, Own.nil _ _ _, Fr.refl _ _, .inl rfl⟩
/-- all rows, one behind the other -/
def flatS (S : List (List Od)) : List Od := S.flatten
theorem flatS_take {S : List (List Od)} {k : Nat} (h : k < S.length) : flatS (S.take (k + 1)) = flatS (S.take k) ++ S[k] := by
  unfold flatS
  rw [List.take_succ_eq_append_getElem h, List.flatten_append]
  simp
theorem flatS_le {S : List (List Od)} (k : Nat) : (flatS (S.take k)).length ≤ (flatS S).length := by
  have e : S = S.take k ++ S.drop k := (List.take_append_drop k S).symm
  have : flatS S = flatS (S.take k) ++ flatS (S.drop k) := by unfold flatS; rw [← List.flatten_append, ← e]
  rw [this, List.length_append]
  omega
theorem flatS_mem {S : List (List Od)} {i : Nat} (h : i < S.length) {o : Od} (ho : o ∈ S[i]) : o ∈ flatS S := by
  unfold flatS
  exact List.mem_flatten.2 ⟨S[i], List.getElem_mem h, ho⟩
def CcRelO (w : World) (S : List (List Od)) (sz iv : Value) (wr : World) : Prop := ∃ k : Nat, k ≤ S.length ∧ iv = .int .i64 k ∧ sz = .int .i64 ((flatS (S.take k)).length : Nat) ∧ wr = w
def CdRelO (w : World) (S : List (List Od)) (lv iv : Value) (wr : World) : Prop := ∃ k : Nat, k ≤ S.length ∧ iv = .int .i64 k ∧ OwnO w wr lv (flatS (S.take k)) ∧ Fr No w wr ∧ Newer w.heap.size none lv.ownBlock
def CatRet (w : World) (S : List (List Od)) (e : Ending) (w' : World) : Prop := ∃ v, e = .returned v ∧ OwnO w w' v (flatS S) ∧ Fr No w w' ∧ Newer w.heap.size none v.ownBlock
set_option maxRecDepth 100000 in
set_option maxHeartbeats 1000000 in
theorem concatO_any (A : Option Addr) (c : Nat) (S : List (List Od)) (w : World) (h : StS w A S) (hl : S.length ≤ 100000) (hL : (flatS S).length ≤ 100000) :
    Calls Tryz.prog 46 #[.slice A S.length c] w (CatRet w S) := by
  have HH := Lib.hid h
  have HLE : Hid (∀ k, (flatS (S.take k)).length ≤ (flatS S).length) := fun k => flatS_le k
  clear h
  go_enter Tryz.func46, Tryz.ntmps46
  go_wp2
  go_loopw [3, 11] (fun sz iv wr => CcRelO w S sz iv wr) (fun _ iv _ => S.length - (intOf iv).toNat)
  case atStart => exact ⟨0, Nat.zero_le _, rfl, rfl, rfl⟩
  case round =>
    obtain ⟨k, hk, rfl, rfl, rfl⟩ := hrel
    by_cases hlt : k < S.length
    · obtain ⟨ad, A', c', rfl, q0, _⟩ := HH.out.at_ k hlt
      have h1 := HLE.out (k + 1)
      have E : Hid ((flatS (S.take (k + 1))).length = (flatS (S.take k)).length + S[k].length) := by show _ = _; rw [flatS_take hlt, List.length_append]
      rw [E.out] at h1
      generalize S[k].length = m at *
      generalize (flatS (S.take k)).length = n at *
      have hn0 : ¬ ((n : Int) + (m : Int)) < 0 := by omega
      go_wp2
      go_roundw
      case rel => exact ⟨k + 1, by omega, by go_num, by rw [E.out]; go_num, rfl⟩
      case measure => simp [intOf]; omega
    · obtain rfl : k = S.length := by omega
      rw [List.take_length]
      obtain ⟨wo, rfl⟩ : ∃ wo : World, wo = wr := ⟨_, rfl⟩
      have HG := Lib.hid (growO_any (flatS S).length wo hL)
      go_wp2_with fail
      refine HG.out.mono ?_
      rintro e w1 ⟨v1, rfl, ho1, hf1', hn1⟩
      have hf1 := fr_at_none hf1'
      have HO1 : Hid (OwnO wo w1 v1 (flatS (S.take 0))) := ⟨[], ho1, Each.nilO wo⟩
      have HF1 := Lib.hid hf1
      have HN1 := Lib.hid hn1
      clear ho1 hf1 hf1' hn1 HG
      go_wp2
      go_loopw [6, 27] (fun lv iv wx => CdRelO wo S lv iv wx) (fun _ iv _ => S.length - (intOf iv).toNat)
      case atStart => exact ⟨0, Nat.zero_le _, rfl, HO1.out, HF1.out, HN1.out⟩
      case round =>
        obtain ⟨k, hk, rfl, hown, hfr, hnew⟩ := hrel
        by_cases hlt : k < S.length
        · obtain ⟨ad, A', c', rfl, q0, _⟩ := (HH.out.no hfr).at_ k hlt
          obtain ⟨ad0, A0, c0, e0, q00, hr⟩ := HH.out.at_ k hlt
          injection e0 with e0
          subst e0
          have q01 := hfr.cell_some q00 (fun h => h)
          rw [q0] at q01
          injection q01 with q01
          injection q01 with q01 _ q02
          subst q01 q02
          obtain ⟨⟨cells, hrd, hE⟩, hrn, hrc, hrs⟩ := hr
          have h1 := HLE.out (k + 1)
          have E : Hid ((flatS (S.take (k + 1))).length = (flatS (S.take k)).length + S[k].length) := by show _ = _; rw [flatS_take hlt, List.length_append]
          have E2 : Hid (flatS (S.take (k + 1)) = flatS (S.take k) ++ S[k]) := flatS_take hlt
          have HS : Hid (Src Tryz.prog wr 10 22 (.slice A' S[k].length c') S[k].length cells) := Src.of_rd (hrd.fr (by omega) hfr (fun _ _ _ h => h)) (each_all (P := fun y => y.oneCell' = true) (by omega) hE odr_one) Tryz.underlying22
          rw [E.out] at h1
          have hX : Hid ((flatS (S.take k)).length + S[k].length ≤ maxLen ∧ ((flatS (S.take k)).length + S[k].length) * 120 ≤ 140737488355328) := by
            refine ⟨?_, ?_⟩ <;> (try simp only [maxLen]) <;> omega
          obtain ⟨cells0, ho0, hE0⟩ := hown
          have HOWN := Lib.hid ho0
          have HEA : Hid (Each (OdR wo) 10 (cells0 ++ cells) (flatS (S.take k) ++ S[k])) := each_append hE0 hE
          have HFR := Lib.hid hfr
          have HNEW := Lib.hid hnew
          clear ho0 hE0 hfr hnew hrd hE hrs q00
          go_wp2_with (at_builtin; refine wpList_app _ rfl (.tmp 31) (.tmp 32) 22 22 rfl elO HOWN.out rfl HS.out rfl hX.out.1 hX.out.2 ?_; intro v1 w3 hown3 hfr3 hnew3)
          go_roundw
          case rel =>
            refine ⟨k + 1, by omega, by go_num, ?_, fr_no HFR.out HNEW.out hfr3, HNEW.out.trans (Newer.of hnew3) HFR.out.size⟩
            rw [E2.out]
            exact ⟨_, by rw [List.length_append]; exact hown3, HEA.out⟩
          case measure => simp [intOf]; omega
        · obtain rfl : k = S.length := by omega
          rw [List.take_length] at hown
          go_wp2
          go_ret
          exact ⟨_, rfl, hown, hfr, hnew⟩
theorem OwnN.base {B B' : Nat} {w : World} {v : Value} {l : List Od} (h : OwnN B w v l) (hB : B' ≤ B) : OwnN B' w v l := by
  obtain ⟨cells, ho, hE⟩ := h
  exact ⟨cells, ho, each_imp hE fun cs o ⟨v, h1, h2, h3, h4⟩ => ⟨v, h1, h2, h3, h4.more fun k hk => ⟨Nat.le_trans hB hk.1, hk.2.1, hk.2.2⟩⟩⟩
set_option maxRecDepth 100000 in
theorem lay_any (A : Option Addr) (c : Nat) (S : List (List Od)) (w : World) (h : StS w A S) (hl : S.length ≤ 100000) (hL : (flatS S).length ≤ 100000) (hs : ∀ o ∈ flatS S, o.legs.length ≤ 100000) :
    Calls Tryz.prog 19 #[.slice A S.length c] w (RetN w (flatS S)) := by
  have H1 := Lib.hid (concatO_any A c S w h hl hL)
  have H2 : Hid (∀ W A' c', OwnO w W (.slice A' (flatS S).length c') (flatS S) → Fr No w W → Calls Tryz.prog 45 #[.slice A' (flatS S).length c', .func (.func 39) #[] #[]] W (RetN W (flatS S))) := fun W A' c' ho hf => copyAll_any W _ A' c' (flatS S) (ho.ods.up hf) (by omega) hs
  unfold CatRet at H1
  clear h hl hL hs
  generalize flatS S = l at *
  go_enter Tryz.func19, Tryz.ntmps19
  go_wp2_with fail
  (with_reducible refine H1.out.mono ?_)
  rintro e w1 ⟨v1, rfl, ho1, hf1, hn1⟩
  obtain ⟨A1, c1, rfl, -, -⟩ := ho1.form
  go_wp2_with fail
  (with_reducible refine (H2.out _ _ _ ho1 hf1).mono ?_)
  rintro e w2 ⟨A2, c2, rfl, ho2, hf2, hn2⟩
  go_wp2
  go_ret
  exact ⟨A2, c2, rfl, ho2.base hf1.size, hf1.trans hf2, fun k hk => Nat.le_trans hf1.size (hn2 k hk)⟩
end Go.Proofs.YtnphncemghfkbaaGreat
