/- Contracts of package chart: a chart in memory; New, Open. -/
import Derived.Test.YtjbeaoabhhaiiaaGreatChart
import Derived.Maps.OwnSet
import Derived.Maps.OwnOps
namespace Go.Proofs.YtjbeaoabhhaiiaaGreat
open Go.RowKit Go.My Go.Maps
set_option linter.unusedSimpArgs false
set_option linter.unusedVariables false

theorem law : Keyed Tryz.prog 9 := string_keyed Tryz.underlying9
theorem zeroA (w : World) : (zeroValue 80).run Tryz.prog w = .ok (.agg #[.string ByteArray.empty, .int .i64 0, .int .i64 0, .int .i64 0]) w := by kernel_rfl
def noA : Ac := ⟨[], 0, 0, 0⟩
theorem noA_val : noA.val = .agg #[.string ByteArray.empty, .int .i64 0, .int .i64 0, .int .i64 0] := rfl

/-- block m is a map that holds just these accounts -/
def MpS (w : World) (m : Nat) (S : List Ac) : Prop := w.ownsMap Tryz.prog 9 acR m S.length (dOf S) ∧ Rise S
/-- a chart at p, its map at m -/
def ChS (w : World) (p m : Nat) (S : List Ac) : Prop := Blk w p 135 #[.map (some m)] ∧ MpS w m S

section
variable {w w' : World} {p m : Nat} {S S' : List Ac}
theorem owns_len {n : Nat} (h : w.ownsMap Tryz.prog 9 acR m n (dOf S)) : w.ownsMap Tryz.prog 9 acR m S.length (dOf S) := by
  obtain ⟨es, clock, hb, F, hs, hD⟩ := h
  refine ⟨es, clock, hb, F, ?_, hD⟩
  have h1 := size_dOf S
  rw [hD, Maps.size_eq, length_sorted, List.length_map] at h1
  simp at h1
  omega
theorem MpS.lt (h : MpS w m S) : m < w.heap.size := h.1.lt
theorem MpS.fr {F : Nat → Prop} (h : MpS w m S) (hf : Fr F w w') (hn : ¬ F m) : MpS w' m S := by
  obtain ⟨⟨es, clock, hb, r⟩, hr⟩ := h
  exact ⟨⟨es, clock, (hf.block m (Array.getElem?_eq_some_iff.1 hb).1 hn).trans hb, r⟩, hr⟩
theorem MpS.ne_ {g : Nat} {t : TypeId} {cs : Array Value} (h : MpS w m S) (hg : Blk w g t cs) : m ≠ g := by
  rintro rfl
  obtain ⟨⟨es, clock, hb, _⟩, _⟩ := h
  unfold Blk at hg
  rw [hb] at hg
  cases hg
theorem ChS.ne_ (h : ChS w p m S) : m ≠ p := h.2.ne_ h.1
theorem ChS.fr {F : Nat → Prop} (h : ChS w p m S) (hf : Fr F w w') (hp : ¬ F p) (hn : ¬ F m) : ChS w' p m S := ⟨h.1.fr hf hp, h.2.fr hf hn⟩
theorem ChS.no (h : ChS w p m S) (hf : Fr No w w') : ChS w' p m S := h.fr hf (fun h => h) (fun h => h)
theorem ChS.below {B : Nat} (h : ChS w p m S) (hb : Below B w w') (hp : p < B) (hm : m < B) : ChS w' p m S := by
  refine ⟨h.1.below hb hp, ?_⟩
  obtain ⟨⟨es, clock, hm1, r⟩, hr⟩ := h.2
  exact ⟨⟨es, clock, (hb.block m hm).trans hm1, r⟩, hr⟩
theorem key_mk (s : ByteArray) (hs : s.size ≤ maxLen) : keyOf Tryz.prog 9 (.string s) = some (.string s.data.toList) := Go.WideMaps.keyOf_string_mk Tryz.underlying9 hs
/-- a look, with ok -/
theorem MpS.look (h : MpS w m S) (s : ByteArray) (hs : s.size ≤ maxLen) :
    (Instr.lookup 133 (.map (some m)) (.string s) true).run Tryz.prog w = .ok (.tuple #[((getA S s.data.toList).getD noA).val, .bool (getA S s.data.toList).isSome]) w := by
  obtain ⟨v, ps, hrun, hv⟩ := h.1.look_ok law Tryz.underlying133 (zeroA w) (acR_val noA) (key_mk s hs)
  rw [has_dOf] at hrun
  rw [at_dOf] at hv
  cases hg : getA S s.data.toList with
  | none =>
    rw [hg] at hrun hv
    rw [acR_at hv] at hrun
    exact hrun
  | some a =>
    rw [hg] at hrun hv
    rw [acR_at hv] at hrun
    exact hrun
theorem MpS.look_none (h : MpS w m S) (s : ByteArray) (hs : s.size ≤ maxLen) (hg : getA S s.data.toList = none) :
    (Instr.lookup 133 (.map (some m)) (.string s) true).run Tryz.prog w = .ok (.tuple #[.agg #[.string ByteArray.empty, .int .i64 0, .int .i64 0, .int .i64 0], .bool false]) w := by
  have h1 := h.look s hs
  rw [hg] at h1
  exact h1
theorem MpS.look_some (h : MpS w m S) (s : ByteArray) (hs : s.size ≤ maxLen) (a : Ac) (hg : getA S s.data.toList = some a) :
    (Instr.lookup 133 (.map (some m)) (.string s) true).run Tryz.prog w = .ok (.tuple #[.agg #[.string ⟨a.name.toArray⟩, .int .i64 a.hv, .int .i64 a.st, .int .i64 a.lim], .bool true]) w := by
  have h1 := h.look s hs
  rw [hg] at h1
  exact h1
theorem MpS.len (h : MpS w m S) (ty : TypeId) : (Builtin.len_ #[133] ty #[.map (some m)]).run Tryz.prog w = .ok (.int .i64 (S.length : Int)) w := by
  have h1 := h.1.len Tryz.underlying133 ty
  rwa [size_dOf] at h1
/-- an account is laid into the map -/
theorem MpS.put (h : MpS w m S) (a : Ac) (hs : a.name.length ≤ maxLen) (hl : S.length < maxLen) :
    ∃ w', (Instr.mapUpdate 133 (.map (some m)) (.string ⟨a.name.toArray⟩) a.val).run Tryz.prog w = .ok () w' ∧ MpS w' m (putA a S) ∧ Fr (At1 m) w w' := by
  obtain ⟨w', hrun, hown, hg⟩ := h.1.update law Tryz.underlying133 hl (key_mk ⟨a.name.toArray⟩ hs) (acR_val a)
  have hown' : w'.ownsMap Tryz.prog 9 acR m (S.length + 1) (dOf (putA a S)) := by
    rw [← put_dOf]
    exact hown
  refine ⟨w', hrun, ⟨owns_len hown', rise_put a S h.2⟩, ⟨hg.os, hg.tape, hg.output, hg.size, fun k hk hn => hg.block k hk (fun e => hn ?_)⟩⟩
  injection e with e
theorem wpList_putA (w : World) {ops : Array Oper} {rest : List Oper} {o : Oper} {a : Act} {Q : Exit → Act → World → Prop} (hg : o.guard = none) (x y z : Operand) (hop : o.op = Op.mapUpdate 133 x y z)
    {b : Nat} {S : List Ac} (hx : a.eval x = .map (some b)) (h : MpS w b S) (A : Ac) (hy : a.eval y = .string ⟨A.name.toArray⟩) (hz : a.eval z = A.val) (hs : A.name.length ≤ maxLen) (hl : S.length < maxLen)
    (hK : ∀ w', MpS w' b (putA A S) → Fr (At1 b) w w' → wpList Tryz.prog ops Q rest (a.put o.dst undef) w') : wpList Tryz.prog ops Q (o :: rest) a w := by
  refine wpList_plain hg fun K' hK' => ?_
  obtain ⟨w', hrun, r1, r2⟩ := h.put A hs hl
  unfold Oper.wp
  simp [execOp, hop, hx, hy, hz, hrun, Result.andThen]
  exact hK' _ _ (hK w' r1 r2)
end

def MadeC (w : World) (e : Ending) (w' : World) : Prop := ∃ p m, e = .returned (.pointer (some ⟨p, 0, none⟩)) ∧ ChS w' p m [] ∧ Fr No w w' ∧ w.heap.size ≤ p ∧ w.heap.size ≤ m
theorem new_any (w : World) : Calls Tryz.prog 42 #[] w (MadeC w) := by
  have hmm := @run_makeMap Tryz.prog
  go_enter Tryz.func42, Tryz.ntmps42
  go_wp2
  go_ret
  have hbk := Blk.new (w.alloc (.map #[] 0)) 135 #[.map (some w.heap.size)]
  rw [World.size_alloc] at hbk
  refine ⟨_, w.heap.size, rfl, ⟨hbk, ?_⟩, ((Fr.refl _ _).alloc _).alloc _, by simp, by omega⟩
  have h : MpS (w.alloc (.map #[] 0)) w.heap.size [] := ⟨World.ownsMap_made _ _ _ _, List.Pairwise.nil⟩
  exact h.fr ((Fr.refl No _).alloc _) (fun h => h)

/-- what Open answers, and what is there then -/
def openE (S : List Ac) (nm : List UInt8) (lim : Int) : Int := if nameB nm = false ∨ lim < 0 then 1 else if (getA S nm).isSome then 7 else if 12 ≤ S.length then 5 else 0
def openS (S : List Ac) (nm : List UInt8) (lim : Int) : List Ac := if openE S nm lim = 0 then putA ⟨nm, 0, 0, lim⟩ S else S

set_option maxRecDepth 100000 in
set_option maxHeartbeats 2000000 in
theorem open_any (p m : Nat) (S : List Ac) (s : ByteArray) (lim : Int) (w : World) (h : ChS w p m S) (hs : s.size ≤ maxLen) (hlim : In64 lim) (hS : S.length ≤ 12) :
    Calls Tryz.prog 103 #[.pointer (some ⟨p, 0, none⟩), .string s, .int .i64 lim] w fun e w' => e = .returned (.int .i64 (openE S s.data.toList lim)) ∧ ChS w' p m (openS S s.data.toList lim) ∧ Fr (At1 m) w w' := by
  have HNM := Lib.hid (name_any s w hs)
  have HS := Lib.hid hs
  have HC := Lib.hid h
  have hpl := h.1.lt
  have hml := h.2.lt
  have HNE := Lib.hid h.ne_
  clear h hs hlim
  cases hn : nameB s.data.toList
  · have HE : Hid (openE S s.data.toList lim = 1 ∧ openS S s.data.toList lim = S) := by
      have h1 : openE S s.data.toList lim = 1 := by unfold openE; rw [if_pos (.inl hn)]
      exact ⟨h1, by unfold openS; rw [h1, if_neg (by decide)]⟩
    rw [hn] at HNM
    clear hn
    go_enter Tryz.func103, Tryz.ntmps103
    go_wp2_with (go_at_call 29; refine HNM.out.mono ?_; rintro e w1 ⟨rfl, hb1⟩)
    go_ret
    refine ⟨by rw [HE.out.1]; rfl, ?_, Fr.of_below hb1 _⟩
    rw [HE.out.2]
    exact HC.out.below hb1 hpl hml
  · rw [hn] at HNM
    by_cases hl : lim < 0
    · have HE : Hid (openE S s.data.toList lim = 1 ∧ openS S s.data.toList lim = S) := by
        have h1 : openE S s.data.toList lim = 1 := by unfold openE; rw [if_pos (.inr hl)]
        exact ⟨h1, by unfold openS; rw [h1, if_neg (by decide)]⟩
      clear hn
      go_enter Tryz.func103, Tryz.ntmps103
      go_wp2_with (go_at_call 29; refine HNM.out.mono ?_; rintro e w1 ⟨rfl, hb1⟩)
      go_ret
      refine ⟨by rw [HE.out.1]; rfl, ?_, Fr.of_below hb1 _⟩
      rw [HE.out.2]
      exact HC.out.below hb1 hpl hml
    · have hE1 : openE S s.data.toList lim = if (getA S s.data.toList).isSome then 7 else if 12 ≤ S.length then 5 else 0 := by
        unfold openE
        rw [if_neg (by rw [hn]; simp; omega)]
      clear hn
      go_enter Tryz.func103, Tryz.ntmps103
      go_wp2_with fail
      refine HNM.out.mono ?_
      rintro e w1 ⟨rfl, hb1⟩
      have hC1 := HC.out.below hb1 hpl hml
      have c0 := hC1.1.cell 0
      have f0 := hC1.1.frozen 0
      simp only [List.getElem?_toArray, List.getElem?_cons_zero] at c0
      have hml1 := hC1.2.lt
      have hpl1 := hC1.1.lt
      cases hg : getA S s.data.toList with
      | some a =>
        have hlk := hC1.2.look_some s HS.out a hg
        have HE : Hid (openE S s.data.toList lim = 7 ∧ openS S s.data.toList lim = S) := by
          have h1 : openE S s.data.toList lim = 7 := by rw [hE1, hg]; rfl
          exact ⟨h1, by unfold openS; rw [h1, if_neg (by decide)]⟩
        clear hg hE1
        go_wp2
        go_ret
        refine ⟨by rw [HE.out.1]; rfl, ?_, (Fr.of_below hb1 _).trans ((Fr.refl _ _).alloc _)⟩
        rw [HE.out.2]
        exact hC1.no ((Fr.refl _ _).alloc _)
      | none =>
        have hlk := hC1.2.look_none s HS.out hg
        have hlen := fun (o : Obj) ty => (hC1.no ((Fr.refl _ w1).alloc o)).2.len ty
        have HC2 := Lib.hid fun (o : Obj) => hC1.no ((Fr.refl _ w1).alloc o)
        have HF2 : Hid (∀ o : Obj, Fr (At1 m) w (w1.alloc o)) := fun o => (Fr.of_below hb1 _).trans ((Fr.refl _ _).alloc _)
        have hnil := fun W => run_eql_map_nil (P := Tryz.prog) W 133 _ _ (some m) Tryz.underlying133
        by_cases h12 : 12 ≤ S.length
        · have HE : Hid (openE S s.data.toList lim = 5 ∧ openS S s.data.toList lim = S) := by
            have h1 : openE S s.data.toList lim = 5 := by rw [hE1, hg, if_neg (by simp), if_pos h12]
            exact ⟨h1, by unfold openS; rw [h1, if_neg (by decide)]⟩
          have h12' : (12 : Int) ≤ (S.length : Int) := by omega
          clear hg hE1 h12
          go_wp2
          go_ret
          refine ⟨by rw [HE.out.1]; rfl, ?_, HF2.out _⟩
          rw [HE.out.2]
          exact HC2.out _
        · have HE : Hid (openE S s.data.toList lim = 0 ∧ openS S s.data.toList lim = putA ⟨s.data.toList, 0, 0, lim⟩ S) := by
            have h1 : openE S s.data.toList lim = 0 := by rw [hE1, hg, if_neg (by simp), if_neg h12]
            exact ⟨h1, by unfold openS; rw [h1, if_pos rfl]⟩
          have h12' : ¬ (12 : Int) ≤ (S.length : Int) := by omega
          have hmx : Hid (S.length < maxLen) := by show _ < _; unfold maxLen; omega
          clear hg hE1 h12
          go_wp2_with (at_mapUpdate; refine wpList_putA _ rfl (.tmp 48) (.tmp 49) (.tmp 52) rfl rfl (HC2.out _).2 ⟨s.data.toList, 0, 0, lim⟩ rfl rfl (by have h := HS.out; simpa using h) hmx.out ?_; intro w3 hm3 hf3)
          go_ret
          refine ⟨by rw [HE.out.1]; rfl, ?_, (HF2.out _).trans hf3⟩
          rw [HE.out.2]
          exact ⟨(HC2.out _).1.fr hf3 (fun h => HNE.out h.symm), hm3⟩
end Go.Proofs.YtjbeaoabhhaiiaaGreat
