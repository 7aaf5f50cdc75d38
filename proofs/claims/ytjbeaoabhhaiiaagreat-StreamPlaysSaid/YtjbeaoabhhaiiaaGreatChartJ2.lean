/- The document's own chart: Free, Give, Aside. -/
import Derived.Test.YtjbeaoabhhaiiaaGreatChartJ1
namespace Go.Proofs.YtjbeaoabhhaiiaaGreat
open Go.RowKit Go.My Go.Maps
set_option linter.unusedSimpArgs false
set_option linter.unusedVariables false
attribute [local go_sem ↓] Go.wp_at_zero Go.wp_at_succ

theorem total2 (a b : Int) : total [a, b] = a + b := by simp [total_cons, total_nil]
set_option maxRecDepth 100000 in
set_option maxHeartbeats 1000000 in
theorem reffree_any (a : Ac) (x : Int) (w : World) (ha : OkA a) (hx : 0 < x ∧ x ≤ 9223372036854775807) :
    Calls Tryz.prog 127 #[.agg #[.string ⟨a.name.toArray⟩, .int .i64 a.hv, .int .i64 a.st, .int .i64 a.lim], .int .i64 x] w fun e w' => e = .returned (.bool (freeB a x)) ∧ Fr No w w' := by
  obtain ⟨h1, h2, h3⟩ := ha
  have hfr : Hid (freeB a x = decide (-a.lim ≤ a.hv - a.st - x)) := rfl
  obtain ⟨nm, hv, st, lim⟩ := a
  simp only at *
  unfold In64 at h1
  obtain ⟨hx1, hx2⟩ := hx
  have HT : Hid (∀ W, Blk W (w.heap.size + 1) 2 #[.int .i64 hv, .int .i64 (-st)] → Calls Tryz.prog 124 #[.slice (some ⟨w.heap.size + 1, 0, none⟩) 2 2] W fun e w' => e = .returned (two64 (hv - st)) ∧ Fr No W w') := fun W hb => by
    have h := reftotal_any (some ⟨w.heap.size + 1, 0, none⟩) 2 [hv, -st] W ⟨rfl, fun _ => ⟨_, rfl, hb.lt, World.news_of_block hb⟩⟩ (fun y hy => by
      simp only [List.mem_cons, List.not_mem_nil, or_false] at hy
      unfold In64
      rcases hy with rfl | rfl <;> omega) (by simp)
    rw [total2, show hv + -st = hv - st by omega] at h
    exact h.mono fun _ _ h => ⟨h.1, Fr.of_below h.2 _⟩
  have HLS : Hid (∀ W, In64 (hv - st) → Calls Tryz.prog 125 #[.int .i64 (hv - st), .int .i64 x] W fun e w' => e = .returned (two64 (hv - st - x)) ∧ Fr No W w') := fun W hi =>
    (refless_any (hv - st) x W hi (by unfold In64; omega)).mono fun _ _ h => ⟨h.1, Fr.of_below h.2 _⟩
  have hb1 := Blk.new w 80 #[.string ⟨nm.toArray⟩, .int .i64 hv, .int .i64 st, .int .i64 lim]
  have HB1 : Hid (∀ o : Obj, ∀ W, Fr No ((w.alloc (.cells #[.string ⟨nm.toArray⟩, .int .i64 hv, .int .i64 st, .int .i64 lim] 80)).alloc o) W → W.cell? ⟨w.heap.size, 3, none⟩ = some (.int .i64 lim) ∧ Fr No w W) := fun o W hW =>
    ⟨((hb1.alloc o).fr hW (fun h => h)).cell 3, (((Fr.refl No w).alloc _).alloc _).trans hW⟩
  go_enter Tryz.func127, Tryz.ntmps127
  go_wp2_with fail
  refine (HT.out _ (by
    have hb := Blk.new (w.alloc (.cells #[.string ⟨nm.toArray⟩, .int .i64 hv, .int .i64 st, .int .i64 lim] 80)) 2 #[.int .i64 hv, .int .i64 (-st)]
    rw [World.size_alloc] at hb
    exact hb)).mono ?_
  rintro e w2 ⟨rfl, hf2⟩
  have HF2 := Lib.hid hf2
  clear hf2 hb1
  by_cases hin : In64 (hv - st)
  · have HL2 := Lib.hid (HLS.out w2 hin)
    rw [two64_in hin]
    unfold In64 at hin
    by_cases hin2 : In64 (hv - st - x)
    · have H2 := Lib.hid (two64_in hin2)
      unfold In64 at hin2
      go_wp2_with fail
      refine HL2.out.mono ?_
      rintro e w3 ⟨rfl, hf3⟩
      obtain ⟨q3, hfa⟩ := HB1.out _ _ (HF2.out.trans hf3)
      have HFA := Lib.hid hfa
      rw [H2.out]
      clear hf3 hfa
      go_wp2
      go_ret
      exact ⟨by rw [hfr.out]; rfl, HFA.out⟩
    · have H2 := Lib.hid (two64_out hin2)
      have H3 : Hid (freeB ⟨nm, hv, st, lim⟩ x = false) := by
        show freeB _ _ = false
        rw [hfr.out, decide_eq_false_iff_not]
        unfold In64 at hin2
        omega
      clear hin2
      go_wp2_with fail
      refine HL2.out.mono ?_
      rintro e w3 ⟨rfl, hf3⟩
      obtain ⟨q3, hfa⟩ := HB1.out _ _ (HF2.out.trans hf3)
      have HFA := Lib.hid hfa
      rw [H2.out]
      clear hf3 hfa
      go_wp2
      go_ret
      exact ⟨by rw [H3.out]; rfl, HFA.out⟩
  · have H3 : Hid (freeB ⟨nm, hv, st, lim⟩ x = false) := by
      show freeB _ _ = false
      rw [hfr.out, decide_eq_false_iff_not]
      unfold In64 at hin
      omega
    rw [two64_out hin]
    clear hin
    have HFA := Lib.hid (HB1.out _ _ HF2.out).2
    go_wp2
    go_ret
    exact ⟨by rw [H3.out]; rfl, HFA.out⟩

/-- handed back: an error's number; and the document's chart holds S' -/
def DeedsR (q : Nat) (n : Int) (S' : List Ac) (w : World) (e : Ending) (w' : World) : Prop := e = .returned (.int .i64 n) ∧ RfS w' q S' ∧ Fr (At1 q) w w'

theorem act_none {S : List Ac} {nm : List UInt8} (f : Ac → Int) (g : Ac → Ac) (h : getA S nm = none) : actE f S nm = 6 ∧ actS f g S nm = S := by
  unfold actE actS
  rw [h]
  exact ⟨rfl, rfl⟩
theorem act_some {S : List Ac} {nm : List UInt8} (f : Ac → Int) (g : Ac → Ac) {a : Ac} (h : getA S nm = some a) : actE f S nm = f a ∧ actS f g S nm = if f a = 0 then putA (g a) S else S := by
  unfold actE actS
  rw [h]
  exact ⟨rfl, rfl⟩

theorem acs_ones (S : List Ac) : ∀ y ∈ acs S, y.oneCell' = true := by
  intro y hy
  unfold acs at hy
  rw [List.mem_flatMap] at hy
  obtain ⟨a, _, ha⟩ := hy
  simp only [acC, List.mem_cons, List.not_mem_nil, or_false] at ha
  rcases ha with rfl | rfl | rfl | rfl <;> rfl
theorem rfs_mk {w : World} {q n c : Nat} {S : List Ac} {A : Option Addr} (hn : n = S.length) (hb : Blk w q 122 #[.slice A n c]) (hc : n ≤ c) (hm : c ≤ maxLen) (ho : Own w 80 4 (.slice A n c) n (acs S)) : RfS w q S := by
  subst hn
  exact ⟨A, c, hb, hc, hm, ho⟩

end Go.Proofs.YtjbeaoabhhaiiaaGreat
