/- What accounts grow by together: the program's Net. -/
import Derived.Test.YtpaeohmoecdniabVouM
import Derived.Test.YtpaeohmoecdniabVouC
import Derived.Test.YtpaeohmoecdniabIter2
import Derived.Maps.OwnRows
import Derived.Maps.AppendAt
import Derived.Deep.RegionLaw
namespace Go.My
open Go Go.RowKit Go.Maps
set_option linter.unusedSimpArgs false
set_option linter.unusedVariables false

theorem grown_none {a b : World} (h : Fr No a b) : a.grownBy b none := ⟨h.os, h.tape, h.output, h.size, fun k hk _ => h.block k hk (fun h => h)⟩
theorem ownsInts_no {w w' : World} {base : Nat} {e : TypeId} {q : IntKind} {v : Value} {zs : List Int} (h : w.ownsInts base e q v zs) (hf : Fr No w w') : w'.ownsInts base e q v zs := by
  refine h.kept (grown_none hf) ?_
  cases hq : v.ownBlock with
  | none => exact .inl rfl
  | some k => exact .inr (by simp)
/-- 'm[k] = append(m[k], x)': at the append, the way back at hand -/
theorem step_app_group {P : Program} {ops : Array Oper} {o : Oper} {a : Act} {w : World} {K : Act → World → Prop} {Q : Exit → Act → World → Prop} {E : Prop}
    (hgd : o.guard = none) (s x : Operand) (t : TypeId) (hop : o.op = Op.call { callee := Callee.builtin Builtin.append, args := #[s, x], argTypes := #[t, t] })
    {e : TypeId} (he : El P t e 1 8) {wb : World} {base : Nat} {v : Value} {zs : List Int} (hoi : wb.ownsInts base e .i64 v zs)
    {tm k : TypeId} {b n : Nat} {D : DataW Unit} {key : Value} {kl : Lit} (hback : wb.groupBack P tm k base e .i64 b n D key kl v) (hbw : Fr No wb w) (hzl : zs.length ≤ n) (hn : n ≤ 100000)
    (hs : a.eval s = v) (B : Nat) (y : Int) (hB : w.heap[B]? = some (.cells #[.int .i64 y] e (0, 0))) (hx : a.eval x = .slice (some ⟨B, 0, none⟩) 1 1) (hy : (Lit.int .i64 y).wf = true) (hbase : base ≤ w.heap.size)
    (wn : World) (hfn : Fr (At1 b) wn w) (hwn : wn.heap.size ≤ base)
    (h : ∀ v' w1 w2, (Instr.mapUpdate tm (.map (some b)) key v').run P w1 = .ok () w2 → w2.ownsGroups P k base e .i64 b (n + 1) (D.put kl (.slice (ChangeShapes.lits .i64 (zs ++ [y])) [])) → Fr (At1 b) wn w2 → (∀ g t cs, Blk w g t cs → e ≠ t → Blk w1 g t cs) → K (a.put o.dst v') w1) :
    if Region.wanted o (yielded ops a.tmps) = true then Oper.wp P o a w K Q else E := by
  have hw : Region.wanted o (yielded ops a.tmps) = true := by simp [Region.wanted, hgd]
  rw [if_pos hw]
  obtain ⟨ht, ⟨i, z, hi, hz, hsize, hby, hzs⟩, hpos⟩ := he
  have hoiw := ownsInts_no hoi hbw
  have hlz := hoiw.1.1
  obtain ⟨v', w1, hrun, hown, hgrow, _, hloc⟩ := run_append_own_at (P := P) w base t o.type e i z 1 8 ht hi hz hsize hby hzs hpos v zs.length (zs.map (Value.int .i64)) hoiw.1 ⟨B, 0, none⟩ 1 1 [.int .i64 y] rfl
    (fun j u hu => by
      match j, hu with
      | 0, hu =>
        injection hu with hu
        subst hu
        rw [show (⟨B, 0, none⟩ : Addr).add 0 = ⟨B, 0, none⟩ from rfl, cell_of_row w B 0 _ e (0, 0) hB]
        rfl
      | j + 1, hu => simp at hu) (fun u hu => by simp at hu; subst hu; rfl) (by unfold maxLen; omega) (by omega) hbase
  have hoi1 : w1.ownsInts base e .i64 v' (zs ++ [y]) := hoiw.appended hown hy
  have hg1 : wb.grownBy w1 v.ownBlock := ⟨hgrow.os.trans hbw.os, hgrow.tape.trans hbw.tape, hgrow.output.trans hbw.output, Nat.le_trans hbw.size hgrow.size, fun k hk hne => (hgrow.block k (Nat.lt_of_lt_of_le hk hbw.size) hne).trans (hbw.block k hk (fun h => h))⟩
  obtain ⟨w2, hrun2, hown2, hg2⟩ := hback w1 v' (zs ++ [y]) hg1 hoi1 (by simp; omega) (by
    rcases hloc with h | h
    · exact .inl h
    · exact .inr ⟨_, h, hbw.size⟩)
  rw [hoi1.datum_pos (by simp)] at hown2
  unfold Oper.wp
  simp [execOp, hop, resolve, invoke, builtin, hs, hx, hrun, Result.andThen]
  refine h v' w1 w2 hrun2 hown2 ⟨hg2.os.trans (hgrow.os.trans hfn.os), hg2.tape.trans (hgrow.tape.trans hfn.tape), hg2.output.trans (hgrow.output.trans hfn.output), Nat.le_trans hfn.size (Nat.le_trans hgrow.size hg2.size), fun k hk hne => ?_⟩ (fun g t cs hg hne => (hgrow.block g hg.lt (fun e1 => ?_)).trans hg)
  rotate_left
  · rcases hoiw.1.2 with ⟨rfl, _⟩ | ⟨g', cap, cur, rfl, _, hg', _⟩
    · simp [Value.ownBlock] at e1
    · simp [Value.ownBlock] at e1
      subst e1
      exact Blk.ne_ (t := e) hg' hg hne rfl
  have hkw : k < w.heap.size := Nat.lt_of_lt_of_le hk hfn.size
  have h1 := hgrow.block k hkw (fun e1 => by
    have := (hoiw.1.lt k e1.symm).1
    omega)
  have h2 := hg2.block k (Nat.lt_of_lt_of_le hkw hgrow.size) (fun e1 => hne (by injection e1))
  exact h2.trans (h1.trans (hfn.block k hk hne))
/-- a map that holds nothing, and rows that will lie from 'base' on -/
theorem groups_none {P : Program} {k e : TypeId} {q : IntKind} {w : World} {base m : Nat} (hb : w.heap[m]? = some (.map #[] 0)) (hm : m < base) : w.ownsGroups (H := Unit) P k base e q m 0 (.map []) :=
  ⟨#[], 0, hb, ⟨by simp, MapKept.stamped_empty 0, by simp⟩, Nat.le_refl _, rfl, hm, by simp, by simp⟩
theorem groups_map {P : Program} {k e : TypeId} {q : IntKind} {w : World} {base m n : Nat} {D : DataW Unit} (h : w.ownsGroups P k base e q m n D) : w.ownsMap P k (rowElem w base e q) m n D := by
  obtain ⟨es, clock, hb, F, hs, hD, _⟩ := h
  exact ⟨es, clock, hb, F, hs, hD⟩
/-- over whatever makes blocks alone -/
theorem groups_no {P : Program} {k e : TypeId} {q : IntKind} {w w' : World} {base m n : Nat} {D : DataW Unit} (h : w.ownsGroups P k base e q m n D) (hf : Fr No w w') : w'.ownsGroups P k base e q m n D := by
  obtain ⟨es, clock, hb, F, hs, rfl, hbb, hlen, hap⟩ := h
  have hst : ∀ x ∈ es.toList, ∀ z, rowElem (H := Unit) w base e q x.val = some z → rowElem w' base e q x.val = some z := fun x hx z hz => by
    obtain ⟨zs, ho, rfl⟩ := rowElem_inv hz
    exact rowElem_mk (ownsInts_no ho hf)
  obtain ⟨F1, hmap, _⟩ := F.stay hst
  refine ⟨es, clock, (hf.block m (Array.getElem?_eq_some_iff.1 hb).1 (fun h => h)).trans hb, F1, hs, by rw [hmap], hbb, fun x hx zs ho => ?_, hap⟩
  obtain ⟨y, hy⟩ := F.reads x hx
  obtain ⟨z, hz, _⟩ := WideElems.rd_val hy
  obtain ⟨zs0, ho0, _⟩ := rowElem_inv hz
  rw [ho.unique (ownsInts_no ho0 hf)]
  exact hlen x hx zs0 ho0
end Go.My
namespace Go.Proofs.Ytpaeohmoecdniab
open Go.RowKit Go.My Go.Maps
set_option linter.unusedSimpArgs false
set_option linter.unusedVariables false
attribute [local go_sem ↓] Go.wp_at_zero Go.wp_at_succ

def NgRel (w2 : World) (m : Nat) (F : List Lg) (iv : Value) (wr : World) : Prop :=
  ∃ k : Nat, k ≤ F.length ∧ iv = .int .i64 k ∧ wr.ownsGroups Try.prog 9 w2.heap.size 2 .i64 m k (gOf (F.take k)) ∧ Fr (At1 m) w2 wr
def NlRel (w : World) (F : List Lg) (lv iv : Value) (wr : World) : Prop :=
  ∃ k : Nat, k ≤ (nmA F).length ∧ iv = .int .i64 k ∧ Own wr 47 2 lv (netsOf F ((nmA F).take k)).length (lgs (netsOf F ((nmA F).take k))) ∧ Fr No w wr ∧ Newer w.heap.size none lv.ownBlock ∧ ∀ a ∈ (nmA F).take k, In64 (total (sumsOf F a.name))
theorem zeroIs (w : World) : (zeroValue 58).run Try.prog w = .ok (.slice none 0 0) w := by kernel_rfl
theorem nl_next {F : List Lg} {k : Nat} (hk : k < (nmA F).length) (h : ∀ a ∈ (nmA F).take k, In64 (total (sumsOf F a.name))) (h0 : In64 (total (sumsOf F (nmA F)[k].name))) : ∀ a ∈ (nmA F).take (k + 1), In64 (total (sumsOf F a.name)) := fun a ha => by
  rw [List.take_succ_eq_append_getElem hk, List.mem_append, List.mem_singleton] at ha
  rcases ha with ha | rfl
  · exact h a ha
  · exact h0
theorem nmA_length (F : List Lg) : (nmA F).length ≤ F.length := by
  have h : ∀ (F : List Lg) (S : List Ac), (F.foldl (fun S g => putA (nm0 g.nm) S) S).length ≤ S.length + F.length := by
    intro F
    induction F with
    | nil => intro S; simp
    | cons g r ih =>
      intro S
      have h1 := ih (putA (nm0 g.nm) S)
      have h2 : (putA (nm0 g.nm) S).length ≤ S.length + 1 := by
        unfold putA
        have h3 : ∀ (a : Ac) (T : List Ac), (insA a T).length = T.length + 1 := by
          intro a T
          induction T with
          | nil => rfl
          | cons b t ih => unfold insA; split <;> simp [ih]
        rw [h3]
        have := List.length_filter_le (fun b : Ac => !b.key.sameKey (nm0 g.nm).key) S
        omega
      simp only [List.foldl_cons, List.length_cons]
      omega
  have := h F []
  simpa [nmA] using this
theorem i64_wf {x : Int} (h : In64 x) : (Lit.int .i64 x).wf = true := by
  unfold In64 at h
  simp [Lit.wf, IntKind.min, IntKind.max, IntKind.signed, IntKind.bits]
  omega
theorem netsOf_le (F : List Lg) (S : List Ac) : (netsOf F S).length ≤ S.length := by unfold netsOf; exact List.length_filterMap_le _ _

set_option maxRecDepth 100000 in
set_option maxHeartbeats 4000000 in
theorem net_any (A : Option Addr) (c : Nat) (Ls : List (List Lg)) (w : World) (h : LsS w A Ls) (hok : ∀ g ∈ flatL Ls, g.ok) (hl : Ls.length ≤ 100) (hL : (flatL Ls).length ≤ 1000) :
    Calls Try.prog 21 #[.slice A Ls.length c] w (RetLs w (netL (flatL Ls)) (netE (flatL Ls))) := by
  have HCC := Lib.hid (concat_any A c Ls (w.alloc (.map #[] 0)) (h.fr ((Fr.refl _ _).alloc _)) hl hL)
  generalize flatL Ls = F at *
  have HOK := Lib.hid hok
  have hmm := @run_makeMap Try.prog
  clear h hok
  go_enter Try.func21, Try.ntmps21
  go_wp2_with fail
  refine HCC.out.mono ?_
  rintro e w2 ⟨v2, rfl, ho2, hf2', hn2'⟩
  have hf2 := fr_at_none hf2'
  have hn2 := newer_none hn2'
  obtain ⟨A2, c2, rfl, _, _⟩ := ho2.form
  have hs2 := hf2.size
  rw [World.size_alloc] at hs2 hn2
  have hmb : w2.heap[w.heap.size]? = some (.map #[] 0) := (hf2.block w.heap.size (by simp) (fun h => h)).trans (heap_alloc_new w _)
  have HR2 : Hid (Rd w2 (fun k => (Value.slice A2 F.length c2).ownBlock = some k) 2 A2 F.length (lgs F)) := ho2.rd
  have HN2 := Lib.hid hn2
  have HF2 : Hid (Fr No w w2) := ((Fr.refl No w).alloc _).trans hf2
  clear ho2 hf2 hf2' hn2 hn2' HCC
  generalize hmw : w.heap.size = m at *
  have HMW := Lib.hid hmw
  have HG0 : Hid (w2.ownsGroups Try.prog 9 w2.heap.size 2 .i64 m 0 (gOf (F.take 0))) := groups_none hmb (by omega)
  have hmlt : m < w2.heap.size := by omega
  clear hmw hmb
  go_wp2
  go_loopw [16] (fun iv wr => NgRel w2 m F iv wr) (fun iv _ => F.length - (intOf iv).toNat)
  case atStart => exact ⟨0, Nat.zero_le _, rfl, HG0.out, Fr.refl _ _⟩
  case round =>
    obtain ⟨k, hk, rfl, hg, hfr⟩ := hrel
    by_cases hlt : k < F.length
    · obtain ⟨ad, rfl, _, hgok, q0, q1⟩ := lg_get _ (HR2.out.fr (by omega) hfr fun j hj _ h => by have := HN2.out j hj; have : j = m := h; omega) HOK.out k hlt
      have E : Hid ((gOf (F.take k)).put (.string F[k].nm) (.slice (ChangeShapes.lits .i64 (sumsOf (F.take k) F[k].nm ++ [F[k].sum])) []) = gOf (F.take (k + 1))) := by
        show _ = _
        rw [List.take_succ_eq_append_getElem hlt]
        exact gOf_put _ _
      generalize F[k] = g at *
      obtain ⟨nm, sm⟩ := g
      unfold Lg.ok at hgok
      unfold Lg.nm at E
      simp only at q0 q1 hgok E
      have HWF := Lib.hid (i64_wf hgok.2)
      have HKEY := Lib.hid (key_mk nm hgok.1)
      have hbx := Blk.new wr 47 #[.string nm, .int .i64 sm]
      have hgl := groups_no hg ((Fr.refl No wr).alloc (.cells #[.string nm, .int .i64 sm] 47))
      have HFL : Hid (Fr (At1 m) w2 (wr.alloc (.cells #[.string nm, .int .i64 sm] 47))) := hfr.alloc _
      have hsw := hfr.size
      have hss : (wr.alloc (.cells #[.string nm, .int .i64 sm] 47)).heap.size = wr.heap.size + 1 := by simp
      have HGL := Lib.hid hgl
      have HBX := Lib.hid hbx
      clear hg hfr hgok hgl hbx
      go_upto_region 5 with (fail)
      generalize (wr.alloc (.cells #[.string nm, .int .i64 sm] 47)) = wl at *
      generalize wr.heap.size = bo at *
      obtain ⟨vA, zA, hrunA, hatA, hoA, hzA, hbackA⟩ := (groups_no HGL.out ((Fr.refl No wl).drew)).at law Try.underlying71 (zeroIs _) (by unfold maxLen; omega) HKEY.out
      obtain ⟨vB, zB, hrunB, hatB, hoB, hzB, hbackB⟩ := (groups_no HGL.out (((Fr.refl No wl).alloc (.cells #[.int .i64 sm] 2)).drew)).at law Try.underlying71 (zeroIs _) (by unfold maxLen; omega) HKEY.out
      obtain rfl := group_of hoA hatA
      obtain rfl := group_of hoB hatB
      have x0 := HBX.out.cell 0
      have x1 := HBX.out.cell 1
      simp only [List.getElem?_toArray, List.getElem?_cons_zero, List.getElem?_cons_succ] at x0 x1
      have hboL : bo < wl.heap.size := by omega
      have HFD : Hid (Fr No wl.drew (wl.alloc (.cells #[.int .i64 sm] 2)).drew) := (Fr.refl No wl.drew).alloc _
      have HBX2 : Hid (Blk (wl.alloc (.cells #[.int .i64 sm] 2)).drew bo 47 #[.string nm, .int .i64 sm]) := HBX.out.alloc _
      have HA := Lib.hid (And.intro hoA hbackA)
      have HB := Lib.hid (And.intro hoB hbackB)
      clear hoA hbackA hoB hbackB hatA hatB hss
      go_region_law (first
        | (refine step_app_group rfl (.tmp 26) (.tmp 29) 58 rfl elI HB.out.1 HB.out.2 (Fr.refl No _) hzB (by omega) rfl wl.heap.size sm (heap_alloc_new wl _) rfl HWF.out (by simp; omega) w2 (Fr.drew (HFL.out.alloc _)) (Nat.le_refl _) ?_; intro v3 w3 w4 hrun4 hown4 hf4 hkeep4; have hb4 := hkeep4 bo 47 _ HBX2.out (by decide); have k4 := hb4.cell 0; simp only [List.getElem?_toArray, List.getElem?_cons_zero] at k4; clear hb4 hkeep4)
        | (refine step_app_group rfl (.tmp 26) (.tmp 29) 58 rfl elI HA.out.1 HA.out.2 HFD.out hzA (by omega) rfl wl.heap.size sm (heap_alloc_new wl _) rfl HWF.out (by simp; omega) w2 (Fr.drew (HFL.out.alloc _)) (Nat.le_refl _) ?_; intro v3 w3 w4 hrun4 hown4 hf4 hkeep4; have hb4 := hkeep4 bo 47 _ HBX2.out (by decide); have k4 := hb4.cell 0; simp only [List.getElem?_toArray, List.getElem?_cons_zero] at k4; clear hb4 hkeep4))
      all_goals
        rw [E.out] at hown4
        clear hrun4
        go_wp2
        go_roundw
        case rel => exact ⟨k + 1, by omega, by go_num, hown4, hf4⟩
        case measure => simp [intOf]; omega
    · obtain rfl : k = F.length := by omega
      rw [List.take_length] at hg
      obtain ⟨wo, rfl⟩ : ∃ wo : World, wo = wr := ⟨_, rfl⟩
      have HFO : Hid (Fr No w wo) := HF2.out.trans' hfr fun i hi hlt => by have h1 : i = m := hi; have h2 := HMW.out; omega
      have hgs : Maps.size (gOf F) ≤ 1000 := by rw [size_gOf]; have := nmA_length F; omega
      have HKEYS : Hid (Calls Try.prog 47 #[.map (some m)] wo fun e w' => e = .returned (.func (.func 67) #[] #[.pointer (some ⟨wo.heap.size, 0, none⟩)]) ∧ w' = wo.alloc (.cells #[.map (some m)] 71)) := callsIn_wide.1 (Try.maps_Keys_47 (some m) wo)
      have HSORT : Hid (Calls Try.prog 42 #[.func (.func 67) #[] #[.pointer (some ⟨wo.heap.size, 0, none⟩)]] (wo.alloc (.cells #[.map (some m)] 71)) fun e w' => ∃ v, e = .returned v ∧ Own w' 9 1 v (nmA F).length ((nmA F).map fun a => .string ⟨a.name.toArray⟩) ∧ Fr No wo w' ∧ ∀ k, v.ownBlock = some k → wo.heap.size ≤ k) := by
        refine Calls.mono (callsIn_wide.1 (Try.slices_Sorted_keys_42_47 m F.length (gOf F) _ wo (groups_map hg) (by unfold maxLen; omega) (by omega))) ?_
        rintro e w' ⟨v, ss, rfl, hp, hown, _, hb⟩
        rw [strKeys_gOf] at hp
        have h1 := sorted_names (rise_nmA F) hp
        have hl : ss.length = (nmA F).length := by rw [hp.length_eq, keys_dOf, List.length_map]
        have h2 : (ss.mergeSort fun x y => decide (x ≤ y)) = (nmA F).map Ac.name := h1
        rw [h2, hl, List.map_map] at hown
        refine ⟨v, rfl, Own.of_owns hown, ((Fr.refl No wo).alloc _).trans (Fr.of_below hb _), fun k hk => ?_⟩
        have := (hown.lt k hk).1
        rw [World.size_alloc] at this
        omega
      have HG := Lib.hid hg
      have hno := nmA_length F
      clear hg hfr hgs
      go_wp2_with (first | (go_at_call 47; refine HKEYS.out.mono ?_; rintro e w1 ⟨rfl, rfl⟩) | (go_at_call 42; refine HSORT.out.mono ?_; rintro e w3 ⟨v, rfl, hnames, hf3, hnew3⟩; obtain ⟨A3, c3, rfl, hlc, hcm⟩ := hnames.form))
      have HF3 := Lib.hid (HFO.out.trans hf3)
      have HG3 := Lib.hid (groups_no HG.out hf3)
      have HNM := Lib.hid hnames.rd
      clear hf3 hnew3 hnames HKEYS HSORT
      go_loopw [7, 36] (fun lv iv wr => NlRel w3 F lv iv wr) (fun _ iv _ => (nmA F).length - (intOf iv).toNat)
      case atStart => exact ⟨0, Nat.zero_le _, rfl, Own.nil _ _ _, Fr.refl _ _, .inl rfl, fun a ha => by simp at ha⟩
      case round =>
        obtain ⟨k, hk, rfl, hown, hfr, hnew, hin⟩ := hrel
        by_cases hlt : k < (nmA F).length
        · obtain ⟨ad, u, rfl, _, hx, hcu⟩ := (HNM.out.fr (by omega) hfr (fun _ _ _ h => h)).at_ hlt
          rw [List.getElem?_map, List.getElem?_eq_getElem hlt] at hx
          simp only [Option.map_some] at hx
          injection hx with hx
          subst hx
          have hmem : (nmA F)[k] ∈ nmA F := List.getElem_mem hlt
          have hnml : (nmA F)[k].name.length ≤ maxLen := by
            obtain ⟨g, hg, he⟩ := (mem_nmA F _).1 hmem
            rw [he]
            have := (HOK.out g hg).1
            simpa [nm0, Lg.nm] using this
          obtain ⟨v, zs, hrun, hat, hoi, hzl, _⟩ := (groups_no HG3.out hfr).at law Try.underlying71 (zeroIs _) (by unfold maxLen; omega) (key_mk ⟨(nmA F)[k].name.toArray⟩ hnml)
          obtain rfl := group_of hoi hat
          have hso := Own.of_owns hoi.1
          obtain ⟨Av, cv, rfl, _, _⟩ := hso.form
          have hsl := sumsOf_length F (nmA F)[k].name
          have HTT := Lib.hid (total_any _ Av cv (sumsOf F (nmA F)[k].name) wr hso.rd (sumsOf_in HOK.out _) (by omega))
          have HNX : Hid (In64 (total (sumsOf F (nmA F)[k].name)) → ∀ a ∈ (nmA F).take (k + 1), In64 (total (sumsOf F a.name))) := nl_next hlt hin
          have HBAD : Hid (¬ In64 (total (sumsOf F (nmA F)[k].name)) → netE F = 2 ∧ netL F = []) := netE_bad hmem
          have E : Hid (netsOf F ((nmA F).take (k + 1)) = netsOf F ((nmA F).take k) ++ if total (sumsOf F (nmA F)[k].name) = 0 then [] else [⟨⟨(nmA F)[k].name.toArray⟩, total (sumsOf F (nmA F)[k].name)⟩]) := netsOf_snoc F hlt
          have hnl := netsOf_le F ((nmA F).take k)
          rw [List.length_take] at hnl
          have HOWN := Lib.hid hown
          have HFR := Lib.hid hfr
          have HNEW := Lib.hid hnew
          clear hown hfr hnew hin hmem hnml hzl hat hoi hso
          generalize total (sumsOf F (nmA F)[k].name) = tt at *
          generalize hsn : (sumsOf F (nmA F)[k].name).length = sn at *
          clear hsn
          generalize (nmA F)[k].name.toArray = na at *
          by_cases h64 : In64 tt
          · have HN := Lib.hid (HNX.out h64)
            rw [two64_in h64] at HTT
            clear h64 HNX HBAD
            go_wp2_with fail
            refine HTT.out.mono ?_
            rintro e w5 ⟨rfl, rfl⟩
            by_cases h0 : tt = 0
            · subst h0
              have E2 : Hid (netsOf F ((nmA F).take (k + 1)) = netsOf F ((nmA F).take k)) := by show _ = _; rw [E.out, if_pos rfl, List.append_nil]
              go_wp2
              go_roundw
              case rel => exact ⟨k + 1, by omega, by go_num, by rw [E2.out]; exact HOWN.out, HFR.out, HNEW.out, HN.out⟩
              case measure => simp [intOf]; omega
            · have hz : (tt != 0) = true := by rw [bne_iff_ne]; exact h0
              have E2 : Hid (netsOf F ((nmA F).take (k + 1)) = netsOf F ((nmA F).take k) ++ [⟨⟨na⟩, tt⟩]) := by show _ = _; rw [E.out, if_neg h0]
              have E3 : Hid (lgs (netsOf F ((nmA F).take (k + 1))) = lgs (netsOf F ((nmA F).take k)) ++ [.string ⟨na⟩, .int .i64 tt] ∧ (netsOf F ((nmA F).take (k + 1))).length = (netsOf F ((nmA F).take k)).length + 1) := by
                rw [E2.out, lgs_append]
                exact ⟨rfl, by simp⟩
              have hX : Hid ((netsOf F ((nmA F).take k)).length + 1 ≤ maxLen ∧ ((netsOf F ((nmA F).take k)).length + 1) * 24 ≤ 140737488355328) := by
                refine ⟨?_, ?_⟩ <;> (try simp only [maxLen]) <;> omega
              clear h0
              go_wp2_with (at_builtin; refine wpList_app _ rfl (.tmp 52) (.tmp 56) 23 23 rfl elL (HOWN.out.alloc _) rfl (Src.of_new wr.heap.size (heap_alloc_new wr _) Try.underlying23 rfl (by simp [Value.oneCell'])) rfl hX.out.1 hX.out.2 ?_; intro v1 w6 hown6 hfr6 hnew6)
              go_roundw
              case rel =>
                refine ⟨k + 1, by omega, by go_num, ?_, fr_no (HFR.out.alloc _) HNEW.out hfr6, HNEW.out.trans (Newer.of hnew6) (by have := HFR.out.size; simp; omega), HN.out⟩
                rw [E3.out.1, E3.out.2]
                exact hown6
              case measure => simp [intOf]; omega
          · have HB := Lib.hid (HBAD.out h64)
            rw [two64_out h64] at HTT
            clear h64 HNX HBAD
            go_wp2_with fail
            refine HTT.out.mono ?_
            rintro e w5 ⟨rfl, rfl⟩
            go_wp2
            go_ret2
            rw [HB.out.1, HB.out.2]
            exact RetLs.nil (HF3.out.trans HFR.out) 2
        · obtain rfl : k = (nmA F).length := by omega
          rw [List.take_length] at hown hin
          obtain ⟨A4, c4, rfl, _, _⟩ := hown.form
          have HRT : Hid (RetLs w (netL F) (netE F) (.returned (.tuple #[.slice A4 (netsOf F (nmA F)).length c4, .int .i64 0])) wr) := by
            rw [netE_ok hin, netL_ok hin]
            exact ⟨_, rfl, hown, HF3.out.trans hfr, hnew.trans (.inl rfl) (Nat.le_refl _) |> fun h => Newer.trans (.inl rfl) h (HF3.out.size)⟩
          clear hown hin hfr hnew
          go_wp2
          go_ret2
          exact HRT.out
end Go.Proofs.Ytpaeohmoecdniab
