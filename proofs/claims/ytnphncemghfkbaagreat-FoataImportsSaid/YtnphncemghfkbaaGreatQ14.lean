/- foata.Steps: its rows in memory. append to a row of the call's own that is full. Of no program. foata.Steps. -/
import Derived.Test.YtnphncemghfkbaaGreatQ13
import Derived.Deep.RegionHeldLaw
import Derived.Test.YtnphncemghfkbaaGreatQ01
namespace Go.Proofs.YtnphncemghfkbaaGreat
open Go.RowKit Go.My Go.Maps Go.WideMaps
set_option linter.unusedSimpArgs false
set_option linter.unusedVariables false
attribute [local go_sem ↓] Go.wp_at_zero Go.wp_at_succ

theorem rowOf_sub (l : List Od) (i : Nat) : (rowOf clashB l i).Sublist l := by
  have h : ((lev clashB l).filter (fun p => p.2 == i + 1)).map (·.1) |>.Sublist ((lev clashB l).map (·.1)) := (List.filter_sublist).map _
  rw [lev_fst] at h
  exact h
theorem sorted_row {l : List Od} (hl : Rt Od.id l) {i : Nat} {L : List Ov} (hs : L.Pairwise fun a b => bO b a = false) (hp : (L.map (·.1)).Perm (rowOf clashB l i)) : (L.map (·.1)).Pairwise fun x y => ltI x.id y.id := by
  have h1 : ((L.map (·.1)).map Od.id).Nodup := (hp.map Od.id).nodup_iff.2 (((rowOf_sub l i).map Od.id).nodup hl)
  rw [List.map_map, List.Nodup, List.pairwise_map] at h1
  rw [List.pairwise_map]
  refine (hs.and h1).imp ?_
  rintro a b ⟨h2, h3⟩
  rcases ltI_total (show a.1.id ≠ b.1.id from h3) with h | h
  · exact h
  · have : bO b a = true := (bO_iff _ _).2 h
    rw [this] at h2; cases h2
/-- a row is sorted where it lies -/
theorem Rows.resort {B : Nat} {w w' : World} {gs : Nat} {vs : List Value} {R : List (List Ov)} (h : Rows B w gs vs R) {i : Nat} {v : Value} {L L' : List Ov} (h1 : vs[i]? = some v) (h2 : R[i]? = some L)
    (hf : Fr (AtO v.ownBlock) w w') (hp : L'.Perm L) (ho : Own w' 47 10 v L.length (ocs L')) : Rows B w' gs vs (R.set i L') := by
  have hil : i < vs.length := (List.getElem?_eq_some_iff.1 h1).1
  have hiR : i < R.length := by rw [← h.len]; exact hil
  have hv : v ∈ vs := List.mem_of_getElem? h1
  have hgood : ∀ (j : Nat) (M : List Ov), R[j]? = some M → ∀ p ∈ M, OvOk w' (RowF B w' gs vs) p := fun j M hM p hp => (h.good j M hM p hp).frS hf (fun k hk _ hS => hk.2.2.2 v hv hS) fun k hk => ⟨hk.1, Nat.lt_of_lt_of_le hk.2.1 hf.size, hk.2.2⟩
  refine ⟨by rw [List.length_set]; exact h.len, fun j u M hu hM => ?_, fun j M hM p hpM => ?_, h.new, h.apart, h.out.fr hf (fun k hk hS => ?_), h.base⟩
  · by_cases hj : j = i
    · subst hj
      rw [h1] at hu
      rw [List.getElem?_set_self hiR] at hM
      simp only [Option.some.injEq] at hu hM
      subst hu hM
      rw [hp.length_eq]
      exact ho
    · rw [List.getElem?_set_ne (Ne.symm hj)] at hM
      exact (h.own j u M hu hM).fr hf fun k hk hS => h.apart j i u v k hj hu h1 hk hS
  · by_cases hj : j = i
    · subst hj
      rw [List.getElem?_set_self hiR] at hM
      simp only [Option.some.injEq] at hM
      subst hM
      exact hgood j L h2 p (hp.mem_iff.1 hpM)
    · rw [List.getElem?_set_ne (Ne.symm hj)] at hM
      exact hgood j M hM p hpM
  · injection hk with hk
    subst hk
    exact h.ne h1 h2 hS
/-- rows that are all empty -/
theorem Rows.zero (w : World) (m : Nat) (hm : m ≤ 1000000) : Rows w.heap.size (w.alloc (.cells (zrow m (.slice none 0 0)).toArray 22)) w.heap.size (zrow m (.slice none 0 0)) (List.replicate m []) where
  len := by rw [zrow_length, List.length_replicate]
  own i v L h1 h2 := by
    unfold zrow at h1
    rw [List.getElem?_replicate] at h1 h2
    split at h1
    · simp only [Option.some.injEq] at h1
      rw [if_pos (by assumption)] at h2
      simp only [Option.some.injEq] at h2
      subst h1 h2
      exact Own.nil _ _ _
    · cases h1
  good i L h2 p hp := by
    rw [List.getElem?_replicate] at h2
    split at h2
    · simp only [Option.some.injEq] at h2
      subst h2
      cases hp
    · cases h2
  new i v k h1 hk := by
    unfold zrow at h1
    rw [List.getElem?_replicate] at h1
    split at h1
    · simp only [Option.some.injEq] at h1
      subst h1
      cases hk
    · cases h1
  apart i j v u k _ h1 _ hk := by
    unfold zrow at h1
    rw [List.getElem?_replicate] at h1
    split at h1
    · simp only [Option.some.injEq] at h1
      subst h1
      cases hk
    · cases h1
  out := by
    rw [zrow_length]
    exact ⟨by rw [zrow_length]; omega, .inr ⟨w.heap.size, m, _, rfl, heap_alloc_new w _, Nat.le_refl _, by simp only [maxLen]; omega, by simp [zrow_length], by rw [Nat.mul_one]; exact List.take_of_length_le (by simp [zrow_length])⟩⟩
  base := Nat.le_refl _
def AtS (w : World) (ga : Nat) (l : List Od) : Prop := Own w 3 1 (.slice (some ⟨ga, 0, none⟩) l.length l.length) l.length (is_ (nats (levN clashB l)))
/-- behind the first k orders -/
def S1Rel (w : World) (B gs ga m : Nat) (l : List Od) (iv : Value) (wr : World) : Prop :=
  ∃ (k : Nat) (vs : List Value) (R : List (List Ov)), k ≤ l.length ∧ iv = .int .i64 k ∧ Rows B wr gs vs R ∧ vs.length = m ∧ (∀ i L, R[i]? = some L → L.map (·.1) = rowOf clashB (l.take k) i) ∧ Fr No w wr ∧ AtS wr ga l
/-- behind the first k rows -/
def S2Rel (w : World) (B gs m : Nat) (vs : List Value) (l : List Od) (iv : Value) (wr : World) : Prop :=
  ∃ (k : Nat) (R : List (List Ov)), k ≤ m ∧ iv = .int .i64 k ∧ Rows B wr gs vs R ∧ (∀ i L, R[i]? = some L → (L.map (·.1)).Perm (rowOf clashB l i) ∧ (i < k → L.Pairwise fun a b => bO b a = false)) ∧ Fr No w wr
def StepsRet (w : World) (l : List Od) (e : Ending) (w' : World) : Prop :=
  ∃ (A : Option Addr) (c : Nat) (S : List (List Od)), e = .returned (.slice A S.length c) ∧ S.length ≤ c ∧ StS w' A S ∧ Fr No w w' ∧ (rightL l = true → StepsO l S) ∧ (rightL l = false → S = [])
/-- an order more goes into its row -/
theorem rows_more {B : Nat} {w wr w1 w2 w3 : World} {gs : Nat} {vs : List Value} {R : List (List Ov)} (hR : Rows B wr gs vs R) (hw : Fr No w wr) (hB : w.heap.size ≤ B) {i : Nat} {v v' : Value} {L : List Ov} (h1 : vs[i]? = some v) (h2 : R[i]? = some L)
    {o : Od} {A1 : Option Addr} {c1 : Nat} (hok : o.ok) (hog : ∀ g ∈ o.legs, g.ok) (hf1 : Fr No wr w1) {wa : World} (hfa : Fr No wr wa) (hL1 : LgS w1 (New wa.heap.size w1 none) (.slice A1 o.legs.length c1) o.legs) (hf2 : Fr No w1 w2)
    (hf3 : Fr (AtO v.ownBlock) w2 w3) (hn : v'.ownBlock = v.ownBlock ∨ v'.ownBlock = some w2.heap.size) (ho : Own w3 47 10 v' (L.length + 1) (ocs L ++ o.cs (.slice A1 o.legs.length c1))) (hBr : B ≤ wr.heap.size) :
    Rows B (w3.setCell ⟨gs, i, none⟩ v') gs (vs.set i v') (R.set i (L ++ [(o, (A1, o.legs.length, c1))])) := by
  have hR2 := (hR.no hf1).no hf2
  have s1 := hf1.size
  have s2 := hf2.size
  have sa := hfa.size
  have hv : v ∈ vs := List.mem_of_getElem? h1
  have hgl : gs < wr.heap.size := hR.out.lt gs rfl
  refine hR2.put h1 h2 hf3 (by rw [List.length_append, ocs_append, ocs_one]; exact ho) (hn.imp id fun e => ⟨_, e, Nat.le_refl _⟩) ?_ rfl
  have key : ∀ k, (B ≤ k ∧ k < w2.heap.size ∧ k ≠ gs ∧ ∀ u ∈ vs, u.ownBlock ≠ some k) → RowF B w3 gs (vs.set i v') k := fun k hk => by
    refine ⟨hk.1, Nat.lt_of_lt_of_le hk.2.1 hf3.size, hk.2.2.1, fun u hu => ?_⟩
    rcases List.mem_or_eq_of_mem_set hu with hu | rfl
    · exact hk.2.2.2 u hu
    · rcases hn with e | e
      · rw [e]; exact hk.2.2.2 v hv
      · rw [e]; intro e2; injection e2 with e2; have := hk.2.1; omega
  intro p hp
  rcases List.mem_append.1 hp with hp | hp
  · exact (hR2.good i L h2 p hp).frS hf3 (fun k hk _ hS => hk.2.2.2 v hv hS) fun k hk => key k ⟨hk.1, hk.2.1, hk.2.2.1, hk.2.2.2⟩
  · rw [List.mem_singleton] at hp
    subst hp
    refine ⟨hok, hog, ?_⟩
    have old : ∀ (u : Value), u ∈ vs → ∀ k, u.ownBlock = some k → k < wr.heap.size := fun u hu k hk => by
      obtain ⟨j, hj, rfl⟩ := List.mem_iff_getElem.1 hu
      have hj2 : j < R.length := by rw [← hR.len]; exact hj
      exact (hR.own j _ R[j] (List.getElem?_eq_getElem hj) (List.getElem?_eq_getElem hj2)).lt k hk
    refine ((hL1.no hf2).frS hf3 fun k hk _ hS => ?_).more fun k hk => key k ⟨?_, ?_, ?_, ?_⟩
    · have := old v hv k hS
      have := hk.1
      omega
    · have := hk.1
      omega
    · have := hk.2.1
      omega
    · have := hk.1
      omega
    · intro u hu e
      have := old u hu k e
      have := hk.1
      omega
end Go.Proofs.YtnphncemghfkbaaGreat

set_option linter.unusedSimpArgs false
set_option linter.unusedVariables false
namespace Go.My
open Go.RowKit
section
variable {P : Program} (w : World)
theorem run_appG (t u ty e : TypeId) (size bytes : Nat) (he : El P t e size bytes) (g n cap : Nat) (xs : List Value) (hown : Own w e size (.slice (some ⟨g, 0, none⟩) n cap) n xs)
    (x : Value) (m : Nat) (news : List Value) (hsrc : Src P w size u x m news) (h63 : n + m ≤ maxLen) (hbytes : (n + m) * bytes ≤ 140737488355328) (hroom : ¬ n + m ≤ cap) :
    ∃ v' w', (Builtin.append_ #[t, u] ty #[.slice (some ⟨g, 0, none⟩) n cap, x]).run P w = .ok v' w' ∧ Own w' e size v' (n + m) (xs ++ news) ∧ Fr No w w' ∧ v'.ownBlock = some w.heap.size := by
  obtain ⟨ht, ⟨i, z, hi, hz, hsize, hby, hzs⟩, hpos⟩ := he
  subst hsize
  subst hby
  have hlen : (xs ++ news).length = (n + m) * i.size := by rw [List.length_append, hown.1, hsrc.1, Nat.add_mul]
  have hsmall : n + m ≤ 9223372036854775807 := by simp only [maxLen] at h63; omega
  have h63' : ¬ (9223372036854775807 < ((n : Int) + (m : Int))) := by omega
  have hrun := hsrc.run w rfl
  have hrun' := hsrc.run w.drew rfl
  have hzero : (match P.underlying u with | some d => some (d matches .int _) | none => none) = some false := by
    rcases hsrc.und with ⟨e', hu⟩ | hu <;> rw [hu]
  have grown : ∀ (old : Nat), old < n + m → ∀ S : Nat → Prop,
      Own (w.drew.alloc (.cells (xs.toArray ++ news.toArray ++ Builtin.zeroCells z.cells (grownCap w (n + m) old e - (n + m))) e)) e i.size
        (.slice (some ⟨w.heap.size, 0, none⟩) (n + m) (grownCap w (n + m) old e)) (n + m) (xs ++ news) ∧
      Fr S w (w.drew.alloc (.cells (xs.toArray ++ news.toArray ++ Builtin.zeroCells z.cells (grownCap w (n + m) old e - (n + m))) e)) := by
    intro old ho S
    have hge := grownCap_ge w (n + m) old e
    have hcm : grownCap w (n + m) old e ≤ maxLen := grownCap_le_maxLen w (n + m) old e h63
    refine ⟨⟨hlen, .inr ⟨w.heap.size, _, _, rfl, heap_alloc_new w.drew _, hge, hcm, ?_, ?_⟩⟩, ((Fr.refl S w).drew).alloc _⟩
    · simp only [Array.size_append, List.size_toArray, size_zeroCells, hzs, hown.1, hsrc.1, ← Nat.add_mul]
      exact Nat.mul_le_mul_right _ (by omega)
    · simp only [Array.toList_append, List.append_assoc]
      rw [← List.append_assoc, ← hlen]
      exact List.take_left
  rcases hown.2 with ⟨h, _⟩ | ⟨g', cap', cur, hv, hg, hnc, hcm, hcs, htake⟩
  · cases h
  · injection hv with hv1 _ hv2
    injection hv1 with hv1
    injection hv1 with hv1
    subst hv1 hv2
    have holds : ∀ j u, xs[j]? = some u → w.drew.cell? ((⟨g, 0, none⟩ : Addr).add j) = some u := by
      intro j u hu
      rcases Nat.eq_zero_or_pos n with h0 | h0
      · subst h0
        have : xs = [] := List.eq_nil_of_length_eq_zero (by simpa using hown.1)
        subst this
        simp at hu
      · obtain ⟨ad, hA, _, hc⟩ := hown.rd.2 h0
        injection hA with hA
        subst hA
        exact hc j u hu
    have h48' : ¬ (281474976710656 < Builtin.nextslicecap (n + m) cap * i.bytes) := by
      have := growslice_fits (need := n + m) (old := cap) (bytes := i.bytes) (by omega) hbytes
      omega
    have hfo := run_firstCells_some (P := P) w.drew i.size n ⟨g, 0, none⟩ n cap xs hown.1 holds
    have hgr := grown cap (by omega) No
    refine ⟨_, _, ?_, hgr.1, hgr.2, rfl⟩
    rcases hsrc.und with ⟨e', hu⟩ | hu <;>
      (simp [Builtin.append_, run_underlying ht, run_underlying hu, sizeOf, typeInfo, zeroValue, hi, hz, hrun.1, hrun'.2, hroom, h63', h48', Question.forced, hfo, newRow, grownCap]
       congr 2
       apply Array.ext'
       simp [List.append_assoc])

theorem wp_appG {o : Oper} {a : Act} {K : Act → World → Prop} {Q : Exit → Act → World → Prop} (s x : Operand) (t u : TypeId)
    (ho : o.op = .call { callee := .builtin .append, args := #[s, x], argTypes := #[t, u] })
    {e : TypeId} {size bytes : Nat} (he : El P t e size bytes) {g n cap : Nat} {xs : List Value} (hown : Own w e size (.slice (some ⟨g, 0, none⟩) n cap) n xs) (hs : a.eval s = .slice (some ⟨g, 0, none⟩) n cap)
    {xv : Value} {m : Nat} {news : List Value} (hsrc : Src P w size u xv m news) (hx : a.eval x = xv) (h63 : n + m ≤ maxLen) (hbytes : (n + m) * bytes ≤ 140737488355328) (hroom : ¬ n + m ≤ cap)
    (h : ∀ v' w', Own w' e size v' (n + m) (xs ++ news) → Fr No w w' → v'.ownBlock = some w.heap.size → K (a.put o.dst v') w') : o.wp P a w K Q := by
  obtain ⟨v', w', hr, h2, h3, h4⟩ := run_appG (P := P) w t u o.type e size bytes he g n cap xs hown xv m news hsrc h63 hbytes hroom
  unfold Oper.wp execOp
  simp only [ho, resolve, invoke, builtin, Sem.run_bind, Sem.run_pure, Result.andThen_ok, List.map_toArray, List.map_cons, List.map_nil, hs, hx, hr]
  exact h v' w' h2 h3 h4

/-- at a plain region's list: '(at_builtin; refine wpList_appG _ rfl S X T U rfl el own rfl src rfl ?_ ?_ ?_)' -/
theorem wpList_appG {ops : Array Oper} {rest : List Oper} {o : Oper} {a : Act} {Q : Exit → Act → World → Prop} (hgd : o.guard = none) (s x : Operand) (t u : TypeId)
    (ho : o.op = .call { callee := .builtin .append, args := #[s, x], argTypes := #[t, u] })
    {e : TypeId} {size bytes : Nat} (he : El P t e size bytes) {g n cap : Nat} {xs : List Value} (hown : Own w e size (.slice (some ⟨g, 0, none⟩) n cap) n xs) (hs : a.eval s = .slice (some ⟨g, 0, none⟩) n cap)
    {xv : Value} {m : Nat} {news : List Value} (hsrc : Src P w size u xv m news) (hx : a.eval x = xv) (h63 : n + m ≤ maxLen) (hbytes : (n + m) * bytes ≤ 140737488355328) (hroom : ¬ n + m ≤ cap)
    (h : ∀ v' w', Own w' e size v' (n + m) (xs ++ news) → Fr No w w' → v'.ownBlock = some w.heap.size → wpList P ops Q rest (a.put o.dst v') w') : wpList P ops Q (o :: rest) a w :=
  wpList_plain hgd fun _ hK => wp_appG w s x t u ho he hown hs hsrc hx h63 hbytes hroom fun v' w' h2 h3 h4 => hK _ _ (h v' w' h2 h3 h4)

end
end Go.My

namespace Go.Proofs.YtnphncemghfkbaaGreat
open Go.RowKit Go.My Go.Maps Go.WideMaps
set_option linter.unusedSimpArgs false
set_option linter.unusedVariables false
attribute [local go_sem ↓] Go.wp_at_zero Go.wp_at_succ

theorem AtS.no {w w' : World} {ga : Nat} {l : List Od} (h : AtS w ga l) (hf : Fr No w w') : AtS w' ga l := Own.fr h hf (fun _ _ h => h)
theorem AtS.keep {w w' : World} {B ga gs : Nat} {l : List Od} {vs : List Value} {R : List (List Ov)} (h : AtS w ga l) (hR : Rows B w gs vs R) {i j : Nat} {v u : Value} {L : List Ov} (h1 : vs[i]? = some v) (h2 : R[i]? = some L) (hf : Fr (AtO v.ownBlock) w w') : AtS (w'.setCell ⟨gs, j, none⟩ u) ga l := by
  obtain ⟨c1, hc1⟩ := Own.blk h ga rfl
  obtain ⟨c2, hc2⟩ := hR.out.blk gs rfl
  have hne : ga ≠ gs := hc1.ne_ hc2 (by decide)
  have h3 : AtS w' ga l := Own.fr h hf fun k hk hS => by
    injection hk with hk
    subst hk
    obtain ⟨c3, hc3⟩ := (hR.own i v L h1 h2).blk ga hS
    exact hc1.ne_ hc3 (by decide) rfl
  exact Own.setCell h3 (by intro e; injection e with e; exact hne e) u
set_option maxRecDepth 100000 in
set_option maxHeartbeats 2000000 in
theorem steps_any (w : World) (F : Nat → Prop) (A : Option Addr) (c : Nat) (l : List Od) (hl : Ls w F A c l) (hn : l.length ≤ 100000) :
    Calls Tryz.prog 14 #[.slice A l.length c] w (StepsRet w l) := by
  have HRT := Lib.hid (rightC_any w w F A c l hl.ods hl.n)
  cases hrt : rightL l
  · rw [hrt] at HRT
    unfold StepsRet
    rw [hrt]
    clear hl
    go_enter Tryz.func14, Tryz.ntmps14
    go_wp2_with fail
    (with_reducible refine HRT.out.mono ?_)
    rintro e w1 ⟨rfl, hf1⟩
    go_wp2
    go_ret
    exact ⟨none, 0, [], rfl, Nat.le_refl _, StS.nil _, hf1, fun h => (by cases h), fun _ => rfl⟩
  · rw [hrt] at HRT
    have HRl : Hid (Rt Od.id l) := (rightL_iff _).1 hrt
    have HL := Lib.hid hl
    have HLV : Hid (∀ W, Fr No w W → Calls Tryz.prog 37 #[.slice A l.length c] W (LvRet W l)) := fun W hW => levels_any W F A c l (HL.out.no hW)
    have hml : maxN (levN clashB l) ≤ 100000 := maxN_le fun n h => Nat.le_trans (levN_le clashB l n h).2 hn
    have HMX : Hid (∀ W A' c', Own W 3 1 (.slice A' (l.length + 1) c') (l.length + 1) (is_ (nats (levN clashB l)) ++ [.int .i64 0]) → Calls Tryz.prog 38 #[.slice A' (l.length + 1) c'] W fun e w' => e = .returned (.int .i64 (maxN (levN clashB l) : Nat)) ∧ w' = W) := fun W A' c' h => by
      have e1 : (levN clashB l ++ [0]).length = l.length + 1 := by rw [List.length_append, levN_length]; rfl
      have e2 : is_ (nats (levN clashB l)) ++ [.int .i64 0] = is_ (nats (levN clashB l ++ [0])) := by unfold is_ nats; simp
      have e3 : maxN (levN clashB l ++ [0]) = maxN (levN clashB l) := by rw [maxN_append]; simp [maxN]
      have h1 := h.rd
      rw [e2] at h1
      have := maxI_any W _ A' c' (levN clashB l ++ [0]) (by rw [e1]; exact h1) (by rw [e1]; omega) (by rw [e1]; omega) (fun n hm => by
        rcases List.mem_append.1 hm with hm | hm
        · have := (levN_le clashB l n hm).2; omega
        · rw [List.mem_singleton] at hm; omega)
      rw [e1, e3] at this
      exact this
    have HTL : Hid (topL (lev clashB l) = maxN (levN clashB l)) := topL_levN clashB l
    have HLE : Hid (∀ k (hk : k < l.length), topN clashB l k k < maxN (levN clashB l)) := fun k hk => by
      have := le_maxN (List.mem_of_getElem? (levN_at clashB l k hk))
      omega
    have hmk := fun W => run_make1 (P := Tryz.prog) elRow zeroRow rfl .i64 .i64 (maxN (levN clashB l)) (by omega) (by simp only [maxLen]; omega) W
    generalize hm : maxN (levN clashB l) = m at *
    clear hl hrt
    have HFIN : Hid (∀ (W : World) (B gs : Nat) (vs : List Value) (R : List (List Ov)), Rows B W gs vs R → vs.length = m → (∀ i L, R[i]? = some L → (L.map (·.1)).Perm (rowOf clashB l i) ∧ (i < m → L.Pairwise fun a b => bO b a = false)) → Fr No w W → StepsRet w l (.returned (.slice (some ⟨gs, 0, none⟩) m m)) W) := fun W B gs vs R hR hvm hS hf => by
      have hlR : R.length = m := by rw [← hR.len]; exact hvm
      have hlS : (R.map fun L => L.map (·.1)).length = m := by rw [List.length_map]; exact hlR
      have hmem : ∀ L ∈ R, ∀ p ∈ L, p.1 ∈ l := fun L hL p hp => by
        obtain ⟨i, hi, rfl⟩ := List.mem_iff_getElem.1 hL
        have := ((hS i _ (List.getElem?_eq_getElem hi)).1.mem_iff).1 (List.mem_map_of_mem hp)
        exact (rowOf_sub l i).subset this
      refine ⟨some ⟨gs, 0, none⟩, m, R.map fun L => L.map (·.1), by rw [hlS], by rw [hlS]; exact Nat.le_refl _, hR.sts (fun L hL => ?_) (fun L hL p hp => HL.out.s _ (hmem L hL p hp)), hf, fun _ => StepsR.of HRl.out.nodup (by rw [hlS, HTL.out]) fun i hi => ?_, fun h => ?_⟩
      · obtain ⟨i, hi, rfl⟩ := List.mem_iff_getElem.1 hL
        have h1 := (hS i _ (List.getElem?_eq_getElem hi)).1.length_eq
        have h2 := (rowOf_sub l i).length_le
        rw [List.length_map] at h1
        omega
      · have hiR : i < R.length := by rw [List.length_map] at hi; exact hi
        obtain ⟨h1, h2⟩ := hS i _ (List.getElem?_eq_getElem hiR)
        rw [List.getElem_map]
        exact ⟨sorted_row HRl.out (h2 (by omega)) h1, h1⟩
      · rw [(rightL_iff _).2 HRl.out] at h; cases h
    have HZR : Hid (∀ W : World, Rows W.heap.size (W.alloc (.cells (zrow m (.slice none 0 0)).toArray 22)) W.heap.size (zrow m (.slice none 0 0)) (List.replicate m [])) := fun W => Rows.zero W m (by omega)
    go_enter Tryz.func14, Tryz.ntmps14
    go_wp2_with fail
    (with_reducible refine HRT.out.mono ?_)
    rintro e w1 ⟨rfl, hf1⟩
    go_wp2_with fail
    (with_reducible refine (HLV.out _ hf1).mono ?_)
    rintro e w2 ⟨rfl, hat2, hf2⟩
    have HA2 : Hid (AtS w2 w1.heap.size l) := hat2
    have HF2 := Lib.hid (hf1.trans hf2)
    clear hat2 hf1 hf2
    go_wp2_with (first
      | (at_builtin; refine wpList_appG _ rfl (.tmp 14) (.tmp 15) 56 56 rfl elInt (Own.alloc HA2.out _) rfl (Src.of_new (cs := #[.int .i64 0]) (t := 3) w2.heap.size (heap_alloc_new w2 _) Tryz.underlying56 rfl (by simp [Value.oneCell'])) rfl (by simp only [maxLen]; omega) (by omega) (by omega) ?_; intro v3 w3 ho3 hf3 hn3; obtain ⟨A3, c3, rfl, -, -⟩ := ho3.form; have HO3 := Lib.hid ho3; have HF3 := Lib.hid (((Fr.refl No w2).alloc (.cells #[.int .i64 0] 3)).trans hf3); clear ho3 hf3 hn3)
      | fail)
    (with_reducible refine (HMX.out _ _ _ HO3.out).mono ?_)
    rintro e w4 ⟨rfl, rfl⟩
    have HA4 := Lib.hid (HA2.out.no HF3.out)
    have HF4 := Lib.hid (HF2.out.trans HF3.out)
    clear HO3 HA2 HF2 HMX
    go_wp2
    go_loopw [21] (fun iv wr => S1Rel w w4.heap.size w4.heap.size w1.heap.size m l iv wr) (fun iv _ => l.length - (intOf iv).toNat)
    case atStart =>
      refine ⟨0, _, _, Nat.zero_le _, rfl, HZR.out w4, zrow_length _ _, fun i L hL => ?_, HF4.out.alloc _, HA4.out.no ((Fr.refl _ _).alloc _)⟩
      rw [List.getElem?_replicate] at hL
      split at hL
      · simp only [Option.some.injEq] at hL
        subst hL
        rw [List.take_zero, rowOf_nil]
        rfl
      · cases hL
    case round =>
      obtain ⟨k, vs, R, hk, rfl, hR, hvm, hS, hfr, hat⟩ := hrel
      have hk62 : (k : Int) ≤ 1000000 := by omega
      by_cases hlt : k < l.length
      · obtain ⟨ad, v0, rfl, _, _, _, _, z0, _⟩ := HL.out.ods.at_ k hlt
        have hadb : ad.block < w.heap.size := by
          have := World.block_lt_of_cell? w _ z0
          rwa [block_of_add] at this
        obtain ⟨ad', vl, e, _, hok, hog, hLg, q0, q1, q2, q3, q4, q5, q6, q7, q8, q9⟩ := (HL.out.ods.fr hfr (fun _ _ _ h => h)).at_ k hlt
        injection e with e
        subst e
        obtain ⟨B', d, rfl, hd1, hd2⟩ := hLg.form
        have hlv := levN_at clashB l k hlt
        have hz1 := own_cell1 hat (j := k) hlt (is_at _ _ (by unfold nats; rw [List.getElem?_map, hlv]; rfl))
        have htm := HLE.out k hlt
        have hRW : ∀ (L : List Ov) (s : Sv), R[topN clashB l k k]? = some L → ∀ i M, (R.set (topN clashB l k k) (L ++ [(l[k], s)]))[i]? = some M → M.map (·.1) = rowOf clashB (l.take (k + 1)) i := fun L s hL i M hM => by
          rw [rowOf_take clashB l k hlt]
          by_cases hi : i = topN clashB l k k
          · subst hi
            have hlt2 := (List.getElem?_eq_some_iff.1 hL).1
            rw [List.getElem?_set_self hlt2] at hM
            simp only [Option.some.injEq] at hM
            subst hM
            rw [if_pos rfl, List.map_append, hS _ _ hL]
            rfl
          · rw [List.getElem?_set_ne (fun e => hi e.symm)] at hM
            rw [if_neg (fun e => hi e.symm)]
            exact hS i M hM
        have HRW := Lib.hid hRW
        have htl : (topN clashB l k k : Int) ≤ 1000000 := by omega
        have HCO : Hid (∀ W, Fr No wr W → Calls Tryz.prog 39 #[l[k].val (.slice B' l[k].legs.length d)] W (OrdRet W l[k])) := fun W hW => copyO_any _ l[k] _ W ((hLg.no hfr).no hW) (HL.out.s _ (List.getElem_mem hlt))
        generalize htn : topN clashB l k k = tn at *
        have hvl : tn < vs.length := by omega
        have hRl : tn < R.length := by rw [← hR.len]; exact hvl
        have h1 := List.getElem?_eq_getElem hvl
        have h2 := List.getElem?_eq_getElem hRl
        have hown := hR.own tn _ _ h1 h2
        have hzs := own_cell1 hR.out (j := tn) hvl h1
        have hnew := hR.new tn vs[tn]
        have hne := hR.ne h1 h2
        have hLn : R[tn].length ≤ l.length := by
          have := (hS tn _ h2)
          have h3 := congrArg List.length this
          rw [List.length_map] at h3
          have h4 := (rowOf_sub (l.take k) tn).length_le
          rw [List.length_take] at h4
          omega
        generalize hv : vs[tn] = v at *
        generalize hLL : R[tn] = L at *
        have HHR := Lib.hid hR
        have HHT := Lib.hid hat
        have H1 := Lib.hid h1
        have H2 := Lib.hid h2
        have HOW := Lib.hid hown
        have HFR := Lib.hid hfr
        have HOK : Hid (l[k].ok ∧ ∀ g ∈ l[k].legs, g.ok) := ⟨hok, hog⟩
        have HSZ : Hid (w.heap.size ≤ w4.heap.size ∧ w4.heap.size ≤ wr.heap.size) := ⟨HF4.out.size, Nat.le_of_lt (hR.out.lt _ rfl)⟩
        have HNB : Hid (∀ kk, AtO v.ownBlock kk → w4.heap.size ≤ kk) := fun kk h => hnew kk h1 h
        have hbl : ∀ kk, AtO v.ownBlock kk → ad.block ≠ kk := fun kk h e => by
          have := hnew kk h1 h
          have := HF4.out.size
          omega
        have HKP : Hid (∀ W, Fr (AtO v.ownBlock) wr W → (Fr (AtO v.ownBlock) wr W ∧ W.cell? ⟨w4.heap.size, tn, none⟩ = some v ∧ W.cell? (ad.add (k * 10)) = some (.int .i64 l[k].cl) ∧ W.cell? ⟨(ad.add (k * 10)).block, (ad.add (k * 10)).off + 1, none⟩ = some (.int .i64 l[k].sq) ∧
            W.cell? ⟨(ad.add (k * 10)).block, (ad.add (k * 10)).off + 2, none⟩ = some (.int .i64 l[k].kd) ∧ W.cell? ⟨(ad.add (k * 10)).block, (ad.add (k * 10)).off + 3, none⟩ = some (.string l[k].acct) ∧
            W.cell? ⟨(ad.add (k * 10)).block, (ad.add (k * 10)).off + 4, none⟩ = some (.string l[k].peer) ∧ W.cell? ⟨(ad.add (k * 10)).block, (ad.add (k * 10)).off + 5, none⟩ = some (.int .i64 l[k].sum) ∧
            W.cell? ⟨(ad.add (k * 10)).block, (ad.add (k * 10)).off + 6, none⟩ = some (.slice B' l[k].legs.length d) ∧ W.cell? ⟨(ad.add (k * 10)).block, (ad.add (k * 10)).off + 7, none⟩ = some (.int .i64 l[k].per) ∧
            W.cell? ⟨(ad.add (k * 10)).block, (ad.add (k * 10)).off + 8, none⟩ = some (.int .i64 l[k].hold) ∧ W.cell? ⟨(ad.add (k * 10)).block, (ad.add (k * 10)).off + 9, none⟩ = some (.string l[k].note))) := fun W hW => by
          have hb : ∀ (j : Nat), ¬ AtO v.ownBlock (⟨(ad.add (k * 10)).block, (ad.add (k * 10)).off + j, none⟩ : Addr).block := fun j h => hbl _ h (by rw [block_of_add])
          exact ⟨hW, hW.cell_some hzs hne, hW.cell_some q0 (fun h => hbl _ h (by rw [block_of_add])), hW.cell_some q1 (hb 1), hW.cell_some q2 (hb 2), hW.cell_some q3 (hb 3), hW.cell_some q4 (hb 4), hW.cell_some q5 (hb 5), hW.cell_some q6 (hb 6), hW.cell_some q7 (hb 7), hW.cell_some q8 (hb 8), hW.cell_some q9 (hb 9)⟩
        have HFZ : Hid (∀ W, Fr (AtO v.ownBlock) wr W → W.frozen? ⟨w4.heap.size, tn, none⟩ = false) := fun W hW => by
          obtain ⟨cur, hcur⟩ := hR.out.blk w4.heap.size rfl
          exact (hcur.fr hW hne).frozen tn
        unfold OrdRet Od.val Od.cs at HCO
        simp only [List.toArray] at HCO
        have HBD : Hid (L.length + 1 ≤ maxLen ∧ (L.length + 1) * 120 ≤ 140737488355328) := by
          refine ⟨?_, ?_⟩ <;> (try simp only [maxLen]) <;> omega
        have hnt : (tn : Int) < (m : Int) := by omega
        clear hok hog hLg hlv hRW hR hat hS hfr hown hnew hne hbl h1 h2 hv hLL hRl hvl z0 hadb hLn
        generalize hlk : l[k] = ok at *
        obtain ⟨cl, sq, kd, acct, peer, sum, lg, per, hold, note⟩ := ok
        simp only at *
        have hwd : Fr No wr wr.drew := (Fr.refl _ _).drew
        obtain ⟨gS, x0, x1, x2, x3, x4, x5, x6, x7, x8, x9, x10⟩ := HKP.out wr.drew ((Fr.refl _ _).drew)
        go_upto_region 9 with (fail)
        have HRM : Hid (∀ (y1 y2 y3 : World) (A1 : Option Addr) (c1 : Nat) (v' : Value), Fr No wr y1 → LgS y1 (New wr.drew.heap.size y1 none) (.slice A1 lg.length c1) lg → Fr No y1 y2 → Fr (AtO v.ownBlock) y2 y3 → (v'.ownBlock = v.ownBlock ∨ v'.ownBlock = some y2.heap.size) → Own y3 47 10 v' (L.length + 1) (ocs L ++ [.int .i64 cl, .int .i64 sq, .int .i64 kd, .string acct, .string peer, .int .i64 sum, .slice A1 lg.length c1, .int .i64 per, .int .i64 hold, .string note]) → S1Rel w w4.heap.size w4.heap.size w1.heap.size m l (.int .i64 ((k + 1 : Nat) : Int)) (y3.setCell ⟨w4.heap.size, tn, none⟩ v')) := fun y1 y2 y3 A1 c1 v' g1 gL g2 g3 gn go => by
          have hrm := rows_more (o := ⟨cl, sq, kd, acct, peer, sum, lg, per, hold, note⟩) HHR.out HFR.out HSZ.out.1 H1.out H2.out HOK.out.1 HOK.out.2 g1 (Fr.refl No wr).drew gL g2 g3 gn go HSZ.out.2
          have hhr2 := (HHR.out.no g1).no g2
          have hat2 := (HHT.out.no g1).no g2
          refine ⟨k + 1, _, _, hlt, rfl, hrm, by rw [List.length_set]; exact hvm, HRW.out L (A1, lg.length, c1) H2.out, ?_, hat2.keep hhr2 H1.out H2.out g3⟩
          refine (((HFR.out.trans g1).trans g2).trans' g3 fun i hi hlt => ?_).trans' (fr_set _ _ _ _) fun i hi hlt => ?_
          · have := HNB.out i hi
            have := HSZ.out.1
            omega
          · have : i = w4.heap.size := hi
            have := HSZ.out.1
            omega
        clear q0 q1 q2 q3 q4 q5 q6 q7 q8 q9 hz1 hzs
        go_region_law (first
          | (go_simp; go_at_call 39; (with_reducible refine (HCO.out _ hwd).mono ?_); rintro e u1 ⟨A1, c1, rfl, hL1, hf1⟩; have g1 : Fr (AtO v.ownBlock) wr u1 := (hwd.trans hf1).mono (fun _ _ h => h.elim); have y0 := (HKP.out _ g1).2.1; have z0 := (HKP.out _ (g1.alloc (.cells #[.int .i64 cl, .int .i64 sq, .int .i64 kd, .string acct, .string peer, .int .i64 sum, .slice A1 lg.length c1, .int .i64 per, .int .i64 hold, .string note] 47))).2.1)
          | (refine step_app _ rfl (.tmp 34) (.tmp 40) 22 22 rfl elO (((HOW.out.fr hwd (fun _ _ h => h)).fr hf1 (fun _ _ h => h)).alloc _) rfl (Src.of_new (cs := #[.int .i64 cl, .int .i64 sq, .int .i64 kd, .string acct, .string peer, .int .i64 sum, .slice A1 lg.length c1, .int .i64 per, .int .i64 hold, .string note]) (t := 47) u1.heap.size (heap_alloc_new u1 _) Tryz.underlying22 rfl (by simp [Value.oneCell'])) rfl HBD.out.1 HBD.out.2 ?_; intro v3 u3 ho3 hf3 hn3; obtain ⟨A5, c5, rfl, -, -⟩ := ho3.form
             have g3 : Fr (AtO v.ownBlock) wr u3 := (g1.alloc _).trans hf3
             have hzz := (HKP.out _ g3).2.1
             have hzf := HFZ.out _ g3))
        all_goals
          have HR3 := Lib.hid (HRM.out u1 _ u3 A1 c1 _ (hwd.trans hf1) hL1 ((Fr.refl _ _).alloc _) hf3 hn3 ho3)
          clear ho3 hf3 hn3 g3 g1 hL1 hf1 hwd gS x0 x1 x2 x3 x4 x5 x6 x7 x8 x9 x10
          go_wp2
          go_roundw
          case rel =>
            obtain ⟨k', vs', R', h1, h2, h3⟩ := HR3.out
            exact ⟨k', vs', R', h1, by rw [← h2]; go_num, h3⟩
          case measure => simp [intOf]; omega
      · obtain rfl : k = l.length := by omega
        rw [List.take_length] at hS
        have HHR := Lib.hid hR
        have HSS := Lib.hid hS
        have HVM := Lib.hid hvm
        have HFR := Lib.hid hfr
        clear hR hS hfr hat hvm
        generalize wr = wo at *
        go_wp2
        go_loopw [46] (fun iv wr => S2Rel w w4.heap.size w4.heap.size m vs l iv wr) (fun iv _ => m - (intOf iv).toNat)
        case atStart => exact ⟨0, R, Nat.zero_le _, rfl, HHR.out, fun i L hL => ⟨by rw [HSS.out i L hL], fun h => absurd h (Nat.not_lt_zero _)⟩, HFR.out⟩
        case round =>
          obtain ⟨k, R2, hk, rfl, hR, hS, hfr⟩ := hrel
          have hk62 : (k : Int) ≤ 1000000 := by omega
          by_cases hlt : k < m
          · have hvl : k < vs.length := by have := HVM.out; omega
            have hRl : k < R2.length := by rw [← hR.len]; exact hvl
            have h1 := List.getElem?_eq_getElem hvl
            have h2 := List.getElem?_eq_getElem hRl
            have hzs := own_cell1 hR.out (j := k) hvl h1
            have hLn : R2[k].length < 1000000 := by
              have h3 := ((hS k _ h2).1).length_eq
              rw [List.length_map] at h3
              have h4 := (rowOf_sub l k).length_le
              omega
            have HSF := Lib.hid (sortO_any R2[k] vs[k] wr (hR.own k _ _ h1 h2) hLn)
            have HFS : Hid (∀ w5 L', Fr (AtO (vs[k]).ownBlock) wr w5 → L'.Perm R2[k] → (L'.Pairwise fun a b => bO b a = false) → Own w5 47 10 vs[k] R2[k].length (ocs L') → S2Rel w w4.heap.size w4.heap.size m vs l (.int .i64 ((k + 1 : Nat) : Int)) w5) := fun w5 L' hf hp hs ho => by
              refine ⟨k + 1, _, hlt, rfl, hR.resort h1 h2 hf hp ho, fun i M hM => ?_, hfr.trans' hf fun i hi hlt2 => ?_⟩
              · by_cases hi : i = k
                · subst hi
                  rw [List.getElem?_set_self hRl] at hM
                  simp only [Option.some.injEq] at hM
                  subst hM
                  exact ⟨(hp.map _).trans (hS i _ h2).1, fun _ => hs⟩
                · rw [List.getElem?_set_ne (fun e => hi e.symm)] at hM
                  obtain ⟨k1, k2⟩ := hS i M hM
                  exact ⟨k1, fun h => k2 (by omega)⟩
              · have := hR.new k _ i h1 hi
                have := HF4.out.size
                omega
            clear hR hS hfr hLn
            generalize vs[k] = v at *
            have hnt : (k : Int) < (m : Int) := by omega
            go_wp2_with fail
            (with_reducible refine HSF.out.mono ?_)
            rintro e w5 ⟨rfl, L', hp, hs, ho, hf⟩
            have HR5 := Lib.hid (HFS.out w5 L' hf hp hs ho)
            clear hp hs ho hf
            go_wp2
            go_roundw
            case rel =>
              obtain ⟨k', R', g1, g2, g3⟩ := HR5.out
              exact ⟨k', R', g1, by rw [← g2]; go_num, g3⟩
            case measure => simp [intOf]; omega
          · obtain rfl : k = m := by omega
            have HRET := Lib.hid (HFIN.out wr _ _ vs R2 hR HVM.out hS hfr)
            clear hR hS hfr
            go_wp2
            go_ret
            exact HRET.out
end Go.Proofs.YtnphncemghfkbaaGreat
