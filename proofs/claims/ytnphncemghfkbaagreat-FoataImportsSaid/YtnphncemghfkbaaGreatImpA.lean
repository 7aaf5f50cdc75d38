/- The document's Import of steps: what its loops keep. -/
import Derived.Test.YtnphncemghfkbaaGreatFoY
import Derived.Test.YtnphncemghfkbaaGreatRefS11
import Derived.Test.YtnphncemghfkbaaGreatQ18
import Derived.Test.YtnphncemghfkbaaGreatQ16
namespace Go.Proofs.YtnphncemghfkbaaGreat
open Go.RowKit Go.My Go.Maps Go.WideMaps
set_option linter.unusedSimpArgs false
set_option linter.unusedVariables false

theorem qrows_succ (k : Nat) (l : List UInt8) : qrows (k + 1) l = (rstep 200 l).bind fun s => (qrows k s.2).map fun q => (s.1 :: q.1, q.2) := rfl
/-- rows of orders that are right, none longer than 200 -/
def RowsOk (S : List (List Od)) : Prop := (∀ o ∈ flatS S, rightO o = true) ∧ ∀ s ∈ S, s.length ≤ 200
theorem RowsOk.snoc {S : List (List Od)} {L : List Od} (h : RowsOk S) (h1 : ∀ o ∈ L, rightO o = true) (h2 : L.length ≤ 200) : RowsOk (S ++ [L]) := by
  refine ⟨fun o ho => ?_, fun s hs => ?_⟩
  · rw [flatS_snoc] at ho
    rcases List.mem_append.1 ho with ho | ho
    · exact h.1 o ho
    · exact h1 o ho
  · rcases List.mem_append.1 hs with hs | hs
    · exact h.2 s hs
    · rw [List.mem_singleton] at hs; rw [hs]; exact h2
theorem RowsOk.len {S : List (List Od)} (h : RowsOk S) : (flatS S).length ≤ 200 * S.length := by
  obtain ⟨-, h⟩ := h
  induction S with
  | nil => simp [flatS]
  | cons s S ih =>
    have h1 := h s List.mem_cons_self
    have h2 := ih fun x hx => h x (List.mem_cons_of_mem _ hx)
    unfold flatS at h2 ⊢
    rw [List.flatten_cons, List.length_append, List.length_cons]
    omega
/-- behind the first i rows -/
def IqRel (F : Nat → Prop) (w : World) (p N : Nat) (R : Option (List (List Od) × List UInt8)) (ov iv : Value) (wr : World) : Prop :=
  ∃ (i : Nat) (S : List (List Od)) (l' : List UInt8) (e : Nat), i ≤ N ∧ iv = .int .i64 (i : Nat) ∧ Fr (At1 p) w wr ∧ (∀ k, ov.ownBlock = some k → w.heap.size ≤ k) ∧ S.length = i ∧ RowsT wr ov S ∧ RdR F wr p l' e ∧ RowsOk S ∧ e < 5 ∧
    ((e = 0 ∧ R = (qrows (N - i) l').map (fun r => (S ++ r.1, r.2))) ∨ (e ≠ 0 ∧ R = none))
/-- behind the first k orders of a row -/
def IkRel (F : Nat → Prop) (w : World) (p M : Nat) (R : Option (List Od × List UInt8)) (sv kv : Value) (wr : World) : Prop :=
  ∃ (k : Nat) (L : List Od) (l' : List UInt8), k ≤ M ∧ kv = .int .i64 (k : Nat) ∧ Fr (At1 p) w wr ∧ (∀ b, sv.ownBlock = some b → w.heap.size ≤ b) ∧ L.length = k ∧ RowT wr sv L ∧ RdR F wr p l' 0 ∧ R = (rords (M - k) l').map (fun r => (L ++ r.1, r.2)) ∧ (∀ o ∈ L, rightO o = true)
theorem import_yes {b : List UInt8} {S T : List (List Od)} (h : qsteps b = some S) (he : expB (flatS S) = true) (hT : StepsO (flatS S) T) (hb : stepsB T = b) : rsteps b = some S ∧ NormalO S := by
  obtain ⟨k1, k2, k3⟩ := expB_all he
  exact (import_same b S).2 ⟨⟨h, k1, k2, fun T' hT' => by rw [steps_uniq hT' hT]; exact hb⟩, T, hT⟩
theorem import_no1 {b : List UInt8} (h : qsteps b = none) : ∀ S, rsteps b = some S → ¬ NormalO S := fun S hS => by
  have := ((qsteps_iff b S).1 hS).1
  rw [h] at this
  cases this
theorem import_no2 {b : List UInt8} {S : List (List Od)} (h : qsteps b = some S) (he : expB (flatS S) = false) (hr : ∀ o ∈ flatS S, rightO o = true) : ∀ S, rsteps b = some S → ¬ NormalO S := fun S' hS hN => by
  obtain ⟨h1, h2⟩ := (qsteps_iff b S').1 hS
  rw [h] at h1
  injection h1 with h1
  subst h1
  have := expB_of (l := flatS S) h2 hN.1 hr
  rw [he] at this
  cases this
theorem import_no3 {b : List UInt8} {S T : List (List Od)} (h : qsteps b = some S) (hT : StepsO (flatS S) T) (hb : stepsB T ≠ b) : ∀ S, rsteps b = some S → ¬ NormalO S := fun S' hS hN => by
  have h1 := ((qsteps_iff b S').1 hS).1
  rw [h] at h1
  injection h1 with h1
  subst h1
  exact hb (export_import hS hN hT).2.1
/-- the reader's block is none of a row's -/
theorem rdr_blk {F : Nat → Prop} {w : World} {p : Nat} {l : List UInt8} {e : Nat} (h : RdR F w p l e) : ∃ cs, Blk w p 75 cs := by
  obtain ⟨A, c, hb, _⟩ := h
  exact ⟨_, hb⟩
theorem rowT_p {F : Nat → Prop} {w w' : World} {p : Nat} {l : List UInt8} {e : Nat} {v : Value} {s : List Od} (hr : RdR F w p l e) (h : RowT w v s) (hf : Fr (At1 p) w w') : RowT w' v s := by
  obtain ⟨cs, hb⟩ := rdr_blk hr
  exact h.other hb (by decide) (by decide) hf
theorem rowsT_p {F : Nat → Prop} {w w' : World} {p : Nat} {l : List UInt8} {e : Nat} {v : Value} {S : List (List Od)} (hr : RdR F w p l e) (h : RowsT w v S) (hf : Fr (At1 p) w w') : RowsT w' v S := by
  obtain ⟨cs, hb⟩ := rdr_blk hr
  exact h.other hb (by decide) (by decide) (by decide) hf
/-- a row more -/
theorem iq_next {F : Nat → Prop} {w wr w6 w7 : World} {p N i : Nat} {R : Option (List (List Od) × List UInt8)} {S : List (List Od)} {L : List Od} {l' rest : List UInt8} {e : Nat} {ov ov' sv : Value} {vs : List Value} (hi : i < N) (hSi : S.length = i) (hn : ∀ k, ov.ownBlock = some k → w.heap.size ≤ k) (hF : ∀ k, F k → k < w.heap.size) (hp : p < w.heap.size) (hok : RowsOk S)
    (hR : R = (qrows (N - i) l').map (fun r => (S ++ r.1, r.2))) (hfr : Fr (At1 p) w wr) (hown : Own wr 22 1 ov S.length vs) (hE : ∀ (j : Nat) (v : Value) (s : List Od), vs[j]? = some v → S[j]? = some s → RowT wr v s) (hrow : RowT wr sv L) (hrd : RdR F wr p rest e) (hL : ∀ o ∈ L, rightO o = true) (hL2 : L.length ≤ 200) (he : e < 5)
    (hcase : (e = 0 ∧ rstep 200 l' = some (L, rest)) ∨ (e ≠ 0 ∧ rstep 200 l' = none)) (hf6 : Fr No wr w6) (hf7 : Fr (AtO ov.ownBlock) w6 w7) (ho7 : Own w7 22 1 ov' (S.length + 1) (vs ++ [sv])) (hn7 : ov'.ownBlock = ov.ownBlock ∨ ov'.ownBlock = some w6.heap.size) : IqRel F w p N R ov' (.int .i64 ((i + 1 : Nat) : Int)) w7 := by
  have s1 := hfr.size
  have s2 := hf6.size
  have hNi : N - i = (N - (i + 1)) + 1 := by omega
  refine ⟨i + 1, S ++ [L], rest, e, hi, rfl, (hfr.trans (hf6.mono fun _ _ h => h.elim)).trans' hf7 fun j hj hlt => ?_, fun k hk => ?_, by rw [List.length_append, hSi]; rfl, rowsT_snoc hown hE hf6 (hrow.no hf6) hf7 ho7, (hrd.no hf6).fr hf7 (fun h => ?_) (fun k hk h => ?_), hok.snoc hL hL2, he, ?_⟩
  · have := hn j hj
    omega
  · rcases hn7 with h | h
    · rw [h] at hk; exact hn k hk
    · rw [h] at hk; injection hk with hk; omega
  · have := hn p h
    omega
  · have := hn k h
    have := hF k hk
    omega
  · rcases hcase with ⟨h1, h2⟩ | ⟨h1, h2⟩
    · refine .inl ⟨h1, ?_⟩
      rw [hR, hNi, qrows_succ, h2, Option.bind_some]
      cases qrows (N - (i + 1)) rest with
      | none => rfl
      | some r => simp
    · refine .inr ⟨h1, ?_⟩
      rw [hR, hNi, qrows_succ, h2]
      rfl
theorem bytes_of_strC {P : Program} (w : World) (src dst e : TypeId) (t : List UInt8) (hs : P.underlying src = some .string) (hd : P.underlying dst = some (.slice e)) (he : P.underlying e = some (.int .u8)) (ht : t.length ≤ 1000000) :
    ∃ c W', (convert src dst (.string ⟨t.toArray⟩)).run P w = .ok (.slice (some ⟨w.heap.size, 0, none⟩) t.length c) W' ∧ Fr No w W' ∧ Rd W' (fun _ => True) 1 (some ⟨w.heap.size, 0, none⟩) t.length (bs t) ∧ t.length ≤ c ∧ c ≤ maxLen := by
  obtain ⟨c, W', h, hf, hr⟩ := bytes_of_str (P := P) w src dst e t hs hd he
  have h2 := Lib.run_convert_string_bytes (P := P) w src dst e ⟨t.toArray⟩ hs hd he
  rw [h] at h2
  injection h2 with h3 h4
  injection h3 with h5 h6 h7
  have hsz : (⟨t.toArray⟩ : ByteArray).size = t.length := by show t.toArray.size = _; simp
  refine ⟨c, W', h, hf, hr, ?_, ?_⟩
  · have := grownCap_ge w (⟨t.toArray⟩ : ByteArray).size 0 e
    omega
  · have := grownCap_le_maxLen w (⟨t.toArray⟩ : ByteArray).size 0 e (by unfold maxLen; omega)
    omega
theorem rtext_no {most : Int} {l : List UInt8} {e : Nat} (h : (rtext most l e).2.1 ≠ 0) : (rtext most l e).1 = [] := by
  unfold rtext at h ⊢
  split
  · rfl
  · rename_i h1
    rw [if_neg h1] at h
    split
    · rfl
    · rename_i h2
      rw [if_neg h2] at h
      exact absurd rfl h
theorem readB_nil : readB [] = false := by
  cases h : readB []
  · rfl
  · have h1 := (read_bytes h).2.1
    have h2 : 0 < (bytesO (readO [])).length := by
      unfold bytesO headB flatB
      simp only [List.length_append, List.flatten_cons]
      have := nB_pos (readO []).cl
      omega
    rw [h1] at h2
    cases h2
/-- what the inner loop's round tells -/
theorem rords_case {M k : Nat} {R : Option (List Od × List UInt8)} {L : List Od} {l2 : List UInt8} (hk : k < M) (hR : R = (rords (M - k) l2).map (fun r => (L ++ r.1, r.2))) :
    ((rtext 1000 l2 0).2.1 = 0 ∧ readE (rtext 1000 l2 0).1 = 0 ∧ rightO (readO (rtext 1000 l2 0).1) = true ∧ R = (rords (M - (k + 1)) (rtext 1000 l2 0).2.2).map (fun r => ((L ++ [readO (rtext 1000 l2 0).1]) ++ r.1, r.2))) ∨ (readE (rtext 1000 l2 0).1 = 3 ∧ R = none) := by
  have hMk : M - k = (M - (k + 1)) + 1 := by omega
  rw [hMk, rords_succ] at hR
  cases hb : readB (rtext 1000 l2 0).1 with
  | true =>
    left
    have h0 : (rtext 1000 l2 0).2.1 = 0 := by
      apply Classical.byContradiction
      intro h
      rw [rtext_no h, readB_nil] at hb
      cases hb
    refine ⟨h0, by unfold readE; rw [if_pos hb], (read_bytes hb).1, ?_⟩
    rw [hR, if_pos ⟨h0, hb⟩]
    cases rords (M - (k + 1)) (rtext 1000 l2 0).2.2 with
    | none => rfl
    | some r => simp
  | false =>
    right
    refine ⟨by unfold readE; rw [if_neg (by rw [hb]; decide)], ?_⟩
    rw [hR, if_neg (fun h => by rw [hb] at h; cases h.2)]
    rfl
end Go.Proofs.YtnphncemghfkbaaGreat
