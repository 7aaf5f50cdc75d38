/- Contracts of package chart: Get. -/
import Derived.Test.YtjbeaoabhhaiiaaGreatChart5
namespace Go.Proofs.YtjbeaoabhhaiiaaGreat
open Go.RowKit Go.My Go.Maps
set_option linter.unusedSimpArgs false
set_option linter.unusedVariables false
attribute [local go_sem ↓] Go.wp_at_zero Go.wp_at_succ

set_option maxRecDepth 100000 in
theorem get_any (p m : Nat) (S : List Ac) (s : ByteArray) (w : World) (h : ChS w p m S) (hs : s.size ≤ maxLen) (hS : S.length ≤ 12) :
    Calls Tryz.prog 136 #[.pointer (some ⟨p, 0, none⟩), .string s] w (GotC p m S s.data.toList w) := by
  have HD : Hid (∀ b W, Fr No w W → w.heap.size ≤ b → b < W.heap.size → AcB W b noA → Calls Tryz.prog 155 #[.pointer (some ⟨p, 0, none⟩), .string s, .func (.func 156) #[] #[.pointer (some ⟨b, 0, none⟩)]] W (ChRet p m S s.data.toList (At1 b) (fun a n a' W => n = 0 ∧ a' = a ∧ AcB W b a) W)) := fun b W hw hb hl hgb =>
    getch_any b p m S s W (h.no hw) hs hS hgb (by have := h.2.lt; omega) (by have := h.1.lt; omega) hl
  have HC := Lib.hid h
  have HRS := Lib.hid h.2.2
  have hml := h.2.lt
  have hpl := h.1.lt
  clear h hs hS
  go_enter Tryz.func136, Tryz.ntmps136
  go_wp2_with fail
  have hf : Fr No w ((w.alloc (.cells #[.string ⟨#[]⟩, .int .i64 0, .int .i64 0, .int .i64 0] 80)).alloc (.cells #[.string ⟨#[]⟩, .int .i64 0, .int .i64 0, .int .i64 0] 80)) := ((Fr.refl _ _).alloc _).alloc _
  have hb : AcB ((w.alloc (.cells #[.string ⟨#[]⟩, .int .i64 0, .int .i64 0, .int .i64 0] 80)).alloc (.cells #[.string ⟨#[]⟩, .int .i64 0, .int .i64 0, .int .i64 0] 80)) (w.heap.size + 1) noA := by
    have h1 := Blk.new (w.alloc (.cells #[.string ⟨#[]⟩, .int .i64 0, .int .i64 0, .int .i64 0] 80)) 80 #[.string ⟨#[]⟩, .int .i64 0, .int .i64 0, .int .i64 0]
    rw [World.size_alloc] at h1
    exact h1
  have hr : AcB ((w.alloc (.cells #[.string ⟨#[]⟩, .int .i64 0, .int .i64 0, .int .i64 0] 80)).alloc (.cells #[.string ⟨#[]⟩, .int .i64 0, .int .i64 0, .int .i64 0] 80)) w.heap.size noA :=
    Blk.fr (Blk.new w 80 #[.string ⟨#[]⟩, .int .i64 0, .int .i64 0, .int .i64 0]) ((Fr.refl No _).alloc _) (fun h => h)
  have hsz : ((w.alloc (.cells #[.string ⟨#[]⟩, .int .i64 0, .int .i64 0, .int .i64 0] 80)).alloc (.cells #[.string ⟨#[]⟩, .int .i64 0, .int .i64 0, .int .i64 0] 80)).heap.size = w.heap.size + 2 := by simp
  refine (HD.out (w.heap.size + 1) _ hf (by omega) (by omega) hb).mono ?_
  generalize ((w.alloc (.cells #[.string ⟨#[]⟩, .int .i64 0, .int .i64 0, .int .i64 0] 80)).alloc (.cells #[.string ⟨#[]⟩, .int .i64 0, .int .i64 0, .int .i64 0] 80)) = w1 at *
  intro e w2 h
  obtain ⟨V, n, hV, hn, rfl, hc, hF, hb2, hr2⟩ : ∃ V n, getV S s.data.toList = V ∧ n = (if (getA S s.data.toList).isSome then 0 else 6) ∧ e = .returned (.int .i64 n) ∧ ChS w2 p m S ∧ Fr (At1 m) w w2 ∧ AcB w2 (w.heap.size + 1) V ∧ AcB w2 w.heap.size noA := by
    rcases h with ⟨hg, rfl, hc, hf2⟩ | ⟨a, n, a', hg, rfl, hnm, hc, hf2, rfl, rfl, hb2⟩
    · exact ⟨_, _, rfl, rfl, by rw [hg]; rfl, hc, (hf.trans hf2).mono fun _ _ h => False.elim h, by unfold getV; rw [hg]; exact Blk.fr hb hf2 (fun h => h), Blk.fr hr hf2 (fun h => h)⟩
    · refine ⟨_, _, rfl, rfl, by rw [hg]; rfl, ?_, ?_, by unfold getV; rw [hg]; exact hb2, Blk.fr hr hf2 (fun h => ?_)⟩
      · rw [if_pos rfl, putA_self HRS.out (by rw [hnm]; exact hg)] at hc
        exact hc
      · refine (hf.mono (T := At1 m) fun _ _ h => False.elim h).trans' hf2 fun i hi hlt => ?_
        rcases hi with rfl | hi
        · rfl
        · have : i = w.heap.size + 1 := hi
          omega
      · rcases h with h | h
        · omega
        · have : w.heap.size = w.heap.size + 1 := h
          omega
  obtain ⟨nm, hv, st, lim⟩ := V
  obtain ⟨c0, c1, c2, c3⟩ := acb_cells hb2
  obtain ⟨d0, d1, d2, d3⟩ := acb_cells hr2
  have f0 := hr2.frozen 0
  have f1 := hr2.frozen 1
  have f2 := hr2.frozen 2
  have f3 := hr2.frozen 3
  have hrl := hr2.lt
  have HF : Hid (ChS w2 p m S ∧ Fr (At1 m) w w2 ∧ getV S s.data.toList = ⟨nm, hv, st, lim⟩ ∧ n = (if (getA S s.data.toList).isSome then 0 else 6)) := ⟨hc, hF, hV, hn⟩
  clear h hc hF hb2 hr2 hV hn hf hb hr hsz
  go_wp2
  have HW : Fr (At1 w.heap.size) w2 ((((w2.setCell ⟨w.heap.size, 0, none⟩ (.string ⟨nm.toArray⟩)).setCell ⟨w.heap.size, 1, none⟩ (.int .i64 hv)).setCell ⟨w.heap.size, 2, none⟩ (.int .i64 st)).setCell ⟨w.heap.size, 3, none⟩ (.int .i64 lim)) :=
    Fr.setCell (S := At1 w.heap.size) (p := ⟨w.heap.size, 3, none⟩) (Fr.setCell (S := At1 w.heap.size) (p := ⟨w.heap.size, 2, none⟩) (Fr.setCell (S := At1 w.heap.size) (p := ⟨w.heap.size, 1, none⟩) (Fr.setCell (S := At1 w.heap.size) (p := ⟨w.heap.size, 0, none⟩) (Fr.refl _ _) (fun _ => rfl) _) (fun _ => rfl) _) (fun _ => rfl) _) (fun _ => rfl) _
  refine bodyPost_ret (v := .tuple #[.agg #[.string ⟨nm.toArray⟩, .int .i64 hv, .int .i64 st, .int .i64 lim], .int .i64 n]) (by simp [results, Tryz.results136, go_sem, d0, d1, d2, d3, f0, f1, f2, f3]) rfl ?_
  obtain ⟨hc, hF, hV, hn⟩ := HF.out
  refine ⟨by rw [hV, hn]; rfl, hc.fr HW (fun h => by have : p = w.heap.size := h; omega) (fun h => by have : m = w.heap.size := h; omega), hF.trans' HW fun i hi hlt => ?_⟩
  have : i = w.heap.size := hi
  omega
end Go.Proofs.YtjbeaoabhhaiiaaGreat
