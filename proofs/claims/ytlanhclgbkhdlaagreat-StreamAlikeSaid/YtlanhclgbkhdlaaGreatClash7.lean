/- Copies of orders: slices.Clone of legs, copies.Order, copies.All. -/
import Derived.Test.YtlanhclgbkhdlaaGreatClash6
import Derived.Test.YtlanhclgbkhdlaaGreatLgs
namespace Go.Proofs.YtlanhclgbkhdlaaGreat
open Go.RowKit Go.My Go.Maps Go.WideMaps
set_option linter.unusedSimpArgs false
set_option linter.unusedVariables false
attribute [local go_sem ↓] Go.wp_at_zero Go.wp_at_succ

/-- blocks that are new since B, and lie in w, and are not that one -/
def New (B : Nat) (w : World) (g : Option Nat) (k : Nat) : Prop := B ≤ k ∧ k < w.heap.size ∧ g ≠ some k
theorem LgS.more {w : World} {F G : Nat → Prop} {v : Value} {L : List Lg} (h : LgS w F v L) (hF : ∀ k, F k → G k) : LgS w G v L := by
  obtain ⟨A, c, cells, e, hr, r⟩ := h
  exact ⟨A, c, cells, e, hr.more hF, r⟩
theorem LgS.frS {w w' : World} {F S : Nat → Prop} {v : Value} {L : List Lg} (h : LgS w F v L) (hf : Fr S w w') (hn : ∀ k, F k → k < w.heap.size → ¬ S k) : LgS w' F v L := by
  obtain ⟨A, c, cells, e, hr, r⟩ := h
  exact ⟨A, c, cells, e, hr.fr (by omega) hf hn, r⟩
theorem LgS.okl {w : World} {F : Nat → Prop} {v : Value} {L : List Lg} (h : LgS w F v L) : ∀ g ∈ L, g.ok := fun g hg => by
  obtain ⟨A, c, cells, e, hr, hE, _⟩ := h
  obtain ⟨i, hi, rfl⟩ := List.getElem_of_mem hg
  exact (hE.2 i _ (List.getElem?_eq_getElem hi)).2
def RetLg (w : World) (L : List Lg) (e : Ending) (w' : World) : Prop := ∃ A c, e = .returned (.slice A L.length c) ∧ LgS w' (New w.heap.size w' none) (.slice A L.length c) L ∧ Fr No w w'
set_option maxRecDepth 100000 in
theorem cloneL_any (F : Nat → Prop) (v : Value) (L : List Lg) (w : World) (h : LgS w F v L) (hl : L.length ≤ 100000) :
    Calls Tryz.prog 44 #[v] w (RetLg w L) := by
  have hok := h.okl
  obtain ⟨A, c, cells, rfl, hr, hE, h1, h2⟩ := h
  have hce := each_lgs L cells hE
  have hnil := fun W => Lib.run_eql_slice_nil (P := Tryz.prog) W 29 92 A L.length c 0 0 Tryz.underlying29
  rcases A with _ | ad
  · have hl0 : L.length = 0 := by
      rcases Nat.eq_zero_or_pos L.length with h0 | h0
      · exact h0
      · obtain ⟨ad, h, _⟩ := hr.2 h0
        cases h
    have : L = [] := List.eq_nil_of_length_eq_zero hl0
    subst this
    simp only [Option.isNone_none, List.length_nil] at hnil
    clear hr hE hce hok
    go_enter Tryz.func44, Tryz.ntmps44
    go_wp2
    go_ret
    exact ⟨none, 0, rfl, LgS_nil _ _, Fr.refl _ _⟩
  · simp only [Option.isNone_some] at hnil
    have hmt : Own (w.alloc (.cells #[] 92)) 92 2 (.slice (some ⟨w.heap.size, 0, none⟩) 0 0) 0 [] := ⟨by simp, .inr ⟨w.heap.size, 0, #[], rfl, heap_alloc_new w _, by omega, by simp only [maxLen]; omega, by simp, by simp⟩⟩
    have hsrc : Src Tryz.prog (w.alloc (.cells #[] 92)) 2 29 (.slice (some ad) L.length c) L.length cells :=
      Src.of_rd (hr.fr (S := No) (by omega) ((Fr.refl _ _).alloc _) (fun _ _ _ h => h)) (by rw [hce]; exact lgs_ones L) Tryz.underlying29
    have HM := Lib.hid hmt
    have HR := Lib.hid hsrc
    have HE := Lib.hid hE
    have HS := Lib.hid hl
    clear hr hE hce hok hmt hsrc hl h1 h2
    go_enter Tryz.func44, Tryz.ntmps44
    go_wp2_with (at_builtin; refine wpList_app _ rfl (.tmp 5) (.tmp 6) 29 29 rfl elL HM.out rfl HR.out rfl (by simp only [maxLen]; have := HS.out; omega) (by have := HS.out; omega) ?_; intro v1 w1 ho1 hf1 hn1)
    go_ret
    rw [Nat.zero_add, List.nil_append] at ho1
    obtain ⟨A1, c1, rfl, hc1, hc2⟩ := ho1.form
    have hf2 : Fr No w w1 := ((Fr.refl No w).alloc (.cells #[] 92)).trans' hf1 (fun i hi hlt => by
      simp only [AtO, Value.ownBlock, Option.some.injEq] at hi
      omega)
    refine ⟨A1, c1, rfl, ⟨A1, c1, cells, rfl, ho1.rd.lt (by omega) |>.more (fun k hk => ?_), HE.out, hc1, hc2⟩, hf2⟩
    refine ⟨?_, hk.2, fun h => by cases h⟩
    rcases hn1 with h | h
    · rw [h] at hk
      have := hk.1
      simp only [Value.ownBlock, Option.some.injEq] at this
      omega
    · rw [h] at hk
      have := hk.1
      simp only [Option.some.injEq, World.size_alloc] at this
      omega
def OrdRet (w : World) (o : Od) (e : Ending) (w' : World) : Prop := ∃ A c, e = .returned (o.val (.slice A o.legs.length c)) ∧ LgS w' (New w.heap.size w' none) (.slice A o.legs.length c) o.legs ∧ Fr No w w'
theorem fr_set10 (w : World) (g : Nat) (a0 a1 a2 a3 a4 a5 a6 a7 a8 a9 : Value) : Fr (At1 g) w ((((((((((w.setCell ⟨g, 0, none⟩ a0).setCell ⟨g, 1, none⟩ a1).setCell ⟨g, 2, none⟩ a2).setCell ⟨g, 3, none⟩ a3).setCell ⟨g, 4, none⟩ a4).setCell ⟨g, 5, none⟩ a5).setCell ⟨g, 6, none⟩ a6).setCell ⟨g, 7, none⟩ a7).setCell ⟨g, 8, none⟩ a8).setCell ⟨g, 9, none⟩ a9) := (((((((((fr_set w g 0 a0).trans (fr_set _ g 1 a1)).trans (fr_set _ g 2 a2)).trans (fr_set _ g 3 a3)).trans (fr_set _ g 4 a4)).trans (fr_set _ g 5 a5)).trans (fr_set _ g 6 a6)).trans (fr_set _ g 7 a7)).trans (fr_set _ g 8 a8)).trans (fr_set _ g 9 a9)
set_option maxRecDepth 100000 in
set_option maxHeartbeats 2000000 in
theorem copyO_any (F : Nat → Prop) (o : Od) (v : Value) (w : World) (hv : LgS w F v o.legs) (hl : o.legs.length ≤ 100000) : Calls Tryz.prog 28 #[o.val v] w (OrdRet w o) := by
  have HT : Hid (∀ W, Fr No w W → Calls Tryz.prog 44 #[v] W (RetLg W o.legs)) := fun W hW => cloneL_any F v o.legs W (hv.no hW) hl
  obtain ⟨vB, vd, rfl, -, -⟩ := hv.form
  clear hv hl
  obtain ⟨ocl, osq, okd, oac, ope, osm, olg, opr, ohd, ont⟩ := o
  unfold OrdRet Od.val Od.cs at *
  unfold RetLg at HT
  simp only at HT ⊢
  generalize olg.length = vn at *
  have hbo := (Blk.new w 31 #[.int .i64 ocl, .int .i64 osq, .int .i64 okd, .string oac, .string ope, .int .i64 osm, .slice vB vn vd, .int .i64 opr, .int .i64 ohd, .string ont]).alloc (.cells #[.int .i64 0, .int .i64 0, .int .i64 0, .string ⟨#[]⟩, .string ⟨#[]⟩, .int .i64 0, .slice none 0 0, .int .i64 0, .int .i64 0, .string ⟨#[]⟩] 31)
  have hbz := Blk.new (w.alloc (.cells #[.int .i64 ocl, .int .i64 osq, .int .i64 okd, .string oac, .string ope, .int .i64 osm, .slice vB vn vd, .int .i64 opr, .int .i64 ohd, .string ont] 31)) 31 #[.int .i64 0, .int .i64 0, .int .i64 0, .string ⟨#[]⟩, .string ⟨#[]⟩, .int .i64 0, .slice none 0 0, .int .i64 0, .int .i64 0, .string ⟨#[]⟩]
  rw [World.size_alloc] at hbz
  have hf1 : Fr No w ((w.alloc (.cells #[.int .i64 ocl, .int .i64 osq, .int .i64 okd, .string oac, .string ope, .int .i64 osm, .slice vB vn vd, .int .i64 opr, .int .i64 ohd, .string ont] 31)).alloc (.cells #[.int .i64 0, .int .i64 0, .int .i64 0, .string ⟨#[]⟩, .string ⟨#[]⟩, .int .i64 0, .slice none 0 0, .int .i64 0, .int .i64 0, .string ⟨#[]⟩] 31)) := ((Fr.refl _ _).alloc _).alloc _
  have hsz : ((w.alloc (.cells #[.int .i64 ocl, .int .i64 osq, .int .i64 okd, .string oac, .string ope, .int .i64 osm, .slice vB vn vd, .int .i64 opr, .int .i64 ohd, .string ont] 31)).alloc (.cells #[.int .i64 0, .int .i64 0, .int .i64 0, .string ⟨#[]⟩, .string ⟨#[]⟩, .int .i64 0, .slice none 0 0, .int .i64 0, .int .i64 0, .string ⟨#[]⟩] 31)).heap.size = w.heap.size + 2 := by rw [World.size_alloc, World.size_alloc]
  go_enter Tryz.func28, Tryz.ntmps28
  go_upto_region 1 with (fail)
  generalize ((w.alloc (.cells #[.int .i64 ocl, .int .i64 osq, .int .i64 okd, .string oac, .string ope, .int .i64 osm, .slice vB vn vd, .int .i64 opr, .int .i64 ohd, .string ont] 31)).alloc (.cells #[.int .i64 0, .int .i64 0, .int .i64 0, .string ⟨#[]⟩, .string ⟨#[]⟩, .int .i64 0, .slice none 0 0, .int .i64 0, .int .i64 0, .string ⟨#[]⟩] 31)) = w2 at *
  have HF1 := Lib.hid hf1
  have HBO := Lib.hid hbo
  have HBZ := Lib.hid hbz
  have HSZ := Lib.hid hsz
  have x6 := hbo.cell 6
  simp only [List.getElem?_toArray, List.getElem?_cons_zero, List.getElem?_cons_succ] at x6
  clear hbo hbz hf1 hsz
  go_wp2_with fail
  (with_reducible refine (HT.out _ HF1.out).mono ?_)
  rintro e w3 ⟨A1, c1, rfl, hL3, hf3⟩
  have hbo := HBO.out.fr hf3 (fun h => h)
  have hbz := HBZ.out.fr hf3 (fun h => h)
  have HL3 := Lib.hid hL3
  have HF3 := Lib.hid hf3
  have HBZ3 := Lib.hid hbz
  have x0 := hbo.cell 0
  have y0 := hbz.cell 0
  have zx0 := hbo.frozen 0
  have zy0 := hbz.frozen 0
  have x1 := hbo.cell 1
  have y1 := hbz.cell 1
  have zx1 := hbo.frozen 1
  have zy1 := hbz.frozen 1
  have x2 := hbo.cell 2
  have y2 := hbz.cell 2
  have zx2 := hbo.frozen 2
  have zy2 := hbz.frozen 2
  have x3 := hbo.cell 3
  have y3 := hbz.cell 3
  have zx3 := hbo.frozen 3
  have zy3 := hbz.frozen 3
  have x4 := hbo.cell 4
  have y4 := hbz.cell 4
  have zx4 := hbo.frozen 4
  have zy4 := hbz.frozen 4
  have x5 := hbo.cell 5
  have y5 := hbz.cell 5
  have zx5 := hbo.frozen 5
  have zy5 := hbz.frozen 5
  have x6 := hbo.cell 6
  have y6 := hbz.cell 6
  have zx6 := hbo.frozen 6
  have zy6 := hbz.frozen 6
  have x7 := hbo.cell 7
  have y7 := hbz.cell 7
  have zx7 := hbo.frozen 7
  have zy7 := hbz.frozen 7
  have x8 := hbo.cell 8
  have y8 := hbz.cell 8
  have zx8 := hbo.frozen 8
  have zy8 := hbz.frozen 8
  have x9 := hbo.cell 9
  have y9 := hbz.cell 9
  have zx9 := hbo.frozen 9
  have zy9 := hbz.frozen 9
  simp only [List.getElem?_toArray, List.getElem?_cons_zero, List.getElem?_cons_succ] at x0 y0 x1 y1 x2 y2 x3 y3 x4 y4 x5 y5 x6 y6 x7 y7 x8 y8 x9 y9
  have hbo6 := hbo.set_ 6 (.slice A1 vn c1)
  have HFA : Hid (Fr (At1 w.heap.size) w3 (w3.setCell ⟨w.heap.size, 6, none⟩ (.slice A1 vn c1))) := fr_set _ _ _ _
  have HFB : Hid (Fr (At1 (w.heap.size + 1)) (w3.setCell ⟨w.heap.size, 6, none⟩ (.slice A1 vn c1)) _) := fr_set10 _ (w.heap.size + 1) (.int .i64 ocl) (.int .i64 osq) (.int .i64 okd) (.string oac) (.string ope) (.int .i64 osm) (.slice A1 vn c1) (.int .i64 opr) (.int .i64 ohd) (.string ont)
  clear hbo hbz hbo6 hL3 hf3 HT
  go_wp2
  refine bodyPost_ret (v := .agg #[.int .i64 ocl, .int .i64 osq, .int .i64 okd, .string oac, .string ope, .int .i64 osm, .slice A1 vn c1, .int .i64 opr, .int .i64 ohd, .string ont]) (by simp [results, Tryz.results28, go_sem, y0, y1, y2, y3, y4, y5, y6, y7, y8, y9]) rfl ?_
  refine ⟨A1, c1, rfl, ?_, ?_⟩
  · refine ((HL3.out.frS HFA.out ?_).frS HFB.out ?_).more ?_
    · rintro k hk _ rfl
      have := hk.1
      have := HSZ.out
      omega
    · rintro k hk _ rfl
      have := hk.1
      have := HSZ.out
      omega
    · intro k hk
      have h1 := hk.1
      have h2 := HSZ.out
      have h3 := HFA.out.size
      have h4 := HFB.out.size
      have h5 := hk.2.1
      exact ⟨by omega, by omega, hk.2.2⟩
  · refine ((HF1.out.trans HF3.out).trans' HFA.out ?_).trans' HFB.out ?_
    · rintro i rfl hlt
      omega
    · rintro i rfl hlt
      omega
end Go.Proofs.YtlanhclgbkhdlaaGreat
