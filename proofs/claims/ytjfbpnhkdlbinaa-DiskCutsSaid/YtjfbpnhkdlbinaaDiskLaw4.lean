/- The laws of package disk, as walks: what all of them ask first; DiskNil. -/
import Derived.Test.YtjfbpnhkdlbinaaDiskLaw3
import Derived.Lib.SlBytesConst
namespace Go.Proofs.Ytjfbpnhkdlbinaa
open Go.RowKit Go.My
set_option linter.unusedSimpArgs false
set_option linter.unusedVariables false

/-- a step's outcome, seen from the law's beginning: all that has changed lies at B or behind -/
theorem retDS_below {B p : Nat} {g : Option Nat} {W w w' : World} {v : Value} {cap : Nat} {s : DSt} {e : Ending} (h : RetDS w p g v cap s e w') (hb : Below B W w) (hB : B ≤ w.heap.size) (hp : B ≤ p) (hg : ∀ k, g = some k → B ≤ k) :
    e = .returned v ∧ ∃ g', DkS w' p g' cap s ∧ Below B W w' ∧ (∀ k, g' = some k → B ≤ k) ∧ Fr (At2 p g) w w' ∧ Newer w.heap.size g g' := by
  obtain ⟨he, g', hd, hf, hn⟩ := h
  refine ⟨he, g', hd, hb.trans (hf.below_at hB fun i hi hs => ?_), fun k hk => ?_, hf, hn⟩
  · rcases hs with hs | hs
    · omega
    · have := hg i hs; omega
  · rcases hn with rfl | ⟨j, rfl, hj⟩
    · exact hg k hk
    · injection hk with hk; omega

theorem append_bytes (p : Nat) (g : Option Nat) (cap : Nat) (s : DSt) (k : Nat) (x : List UInt8) (w : World) (X : Nat) (fr : Nat × Nat) (hX : w.heap[X]? = some (.cells (bs x).toArray 5 fr)) (h : DkS w p g cap s) (hl : x.length ≤ 1000) :
    Calls Try.prog 53 #[.pointer (some ⟨p, 0, none⟩), .slice (some ⟨X, 0, none⟩) x.length k] w (RetDS w p g (.int .i64 (appE s.br cap s.b.length x.length : Int)) cap (appD cap s x)) := by
  have hr : Rd w (fun _ => True) 1 (some ⟨X, 0, none⟩) x.length (bs x) := ⟨by rw [bs_length]; simp, fun _ => ⟨_, rfl, trivial, fun j u hu => by rw [add_zero, cell_of_row w X j _ _ fr hX]; simpa using hu⟩⟩
  exact append_at p g cap s.sure s.b s.br _ _ k x w h hr (by omega)

set_option maxHeartbeats 2000000 in
theorem livesD (w : World) : Calls Try.prog 41 #[] w (RetTrue w) := by
  have kc := fun (w : World) (C : Array Value) (n c : Nat) => Lib.run_convert_bytes_const (P := Try.prog) w 25 5 C n c Try.underlying25 Try.underlying5
  go_enter Try.func41, Try.ntmps41
  go_wp2_with fail
  refine (new_disk 10 _ (by omega) (by omega)).mono ?_
  rintro e w1 ⟨p, rfl, hd1, hf1, hp⟩
  have hb1 : Below w.heap.size w w1 := below_fr_no (Below.refl _ _) hf1 (Nat.le_refl _)
  have hs1 := hb1.size
  have hd1' : DkS w1 p none 10 ⟨[], 0, false⟩ := hd1
  have hpl := hd1.lt
  go_wp2_with fail
  have hX1 := heap_alloc_new w1 (.cells (bs [97, 98]).toArray 5 (2, 3))
  have hd1a : DkS (w1.alloc (.cells (bs [97, 98]).toArray 5 (2, 3))) p none 10 ⟨[], 0, false⟩ := Dk.fr hd1' (S := No) ((Fr.refl _ _).alloc _) (fun h => h) (fun _ _ h => h)
  have hb1a : Below w.heap.size w (w1.alloc (.cells (bs [97, 98]).toArray 5 (2, 3))) := hb1.alloc hs1 _
  refine (append_bytes p none 10 ⟨[], 0, false⟩ 2 [97, 98] _ w1.heap.size _ hX1 hd1a (by simp)).mono ?_
  intro e w2 hr2
  obtain ⟨rfl, g2, hd2, hb2, hg2, _, _⟩ := retDS_below hr2 hb1a (by have := hb1a.size; omega) hp (fun _ h => by cases h)
  clear hr2 hX1 hd1a hb1a hd1 hd1'
  have hs2 := hb2.size
  go_wp2_with fail
  refine (sync_at p g2 10 _ _ _ _ hd2).mono ?_
  intro e w3 hr3
  obtain ⟨rfl, g3, hd3, hb3, hg3, _, _⟩ := retDS_below (s := ⟨[97, 98], 2, false⟩) hr3 hb2 hs2 hp hg2
  have hs3 := hb3.size
  clear hr3 hd2
  go_wp2_with fail
  have hX2 := heap_alloc_new w3 (.cells (bs [99, 100]).toArray 5 (2, 3))
  have hd3a : DkS (w3.alloc (.cells (bs [99, 100]).toArray 5 (2, 3))) p g3 10 ⟨[97, 98], 2, false⟩ := Dk.fr hd3 (S := No) ((Fr.refl _ _).alloc _) (fun h => h) (fun _ _ h => h)
  have hb3a : Below w.heap.size w (w3.alloc (.cells (bs [99, 100]).toArray 5 (2, 3))) := hb3.alloc hs3 _
  refine (append_bytes p g3 10 ⟨[97, 98], 2, false⟩ 2 [99, 100] _ w3.heap.size _ hX2 hd3a (by simp)).mono ?_
  intro e w4 hr4
  obtain ⟨rfl, g4, hd4, hb4, hg4, _, _⟩ := retDS_below hr4 hb3a (by have := hb3a.size; omega) hp hg3
  have hs4 := hb4.size
  clear hr4 hX2 hd3a hb3a hd3
  go_wp2_with fail
  refine (break_at p g4 10 _ _ _ _ hd4).mono ?_
  intro e w5 hr5
  obtain ⟨rfl, g5, hd5, hb5, hg5, _, _⟩ := retDS_below (s := ⟨[97, 98, 99, 100], 2, true⟩) hr5 hb4 hs4 hp hg4
  have hs5 := hb5.size
  clear hr5 hd4
  go_wp2_with fail
  refine (sync_at p g5 10 _ _ _ _ hd5).mono ?_
  intro e w6 hr6
  obtain ⟨rfl, g6, hd6, hb6, hg6, _, _⟩ := retDS_below (s := ⟨[97, 98, 99, 100], 2, true⟩) hr6 hb5 hs5 hp hg5
  have hs6 := hb6.size
  clear hr6 hd5
  go_wp2_with fail
  refine (up_at p g6 10 2 [97, 98, 99, 100] true 1 No none 0 [] _ hd6 Rd.none_ (fun k h => False.elim h) (by simp) (fun s hs => by simp at hs)).mono ?_
  intro e w7 hr7
  obtain ⟨rfl, g7, hd7, hb7, hg7, _, _⟩ := retDS_below (s := ⟨[97, 98, 99], 3, false⟩) hr7 hb6 hs6 hp hg6
  have hs7 := hb7.size
  clear hr7 hd6
  go_wp2_with fail
  refine (bytes_at p g7 10 3 [97, 98, 99] false _ hd7).mono ?_
  rintro e w8 ⟨v8, rfl, ho8, hf8, hn8⟩
  have hd8 : DkS w8 p g7 10 ⟨[97, 98, 99], 3, false⟩ := Dk.fr hd7 (fr_at_none hf8) (fun h => h) (fun _ _ h => h)
  have hb8 := below_fr_no hb7 (fr_at_none hf8) hs7
  have hs8 := hb8.size
  obtain ⟨A8, c8, rfl, _, _⟩ := ho8.form
  have hstr := run_str_of_bytes (P := Try.prog) (c := c8) 25 9 5 Try.underlying25 Try.underlying5 Try.underlying9 ho8.rd
  have hstr' : (convert 25 9 (.slice A8 3 c8)).run Try.prog w8 = .ok (.string ⟨#[97, 98, 99]⟩) w8 := hstr
  clear hstr
  have hsu : Calls Try.prog 46 #[.pointer (some ⟨p, 0, none⟩)] w8 fun e w' => e = .returned (.int .i64 3) ∧ w8 = w' := sure_at p g7 10 3 [97, 98, 99] false w8 hd8
  have hrm : Calls Try.prog 51 #[.pointer (some ⟨p, 0, none⟩)] w8 fun e w' => e = .returned (.int .i64 7) ∧ ∃ n, w' = w8.drewN n := room_at p g7 10 3 [97, 98, 99] false w8 hd8
  have HRM := Lib.hid hrm
  have HSU := Lib.hid hsu
  have HBR : Hid (∀ j, Calls Try.prog 50 #[.pointer (some ⟨p, 0, none⟩)] (w8.drewN j) fun e w' => e = .returned (.bool false) ∧ w8.drewN j = w') := by
    intro j
    obtain ⟨v, hb, _⟩ := hd8
    exact broken_at p _ _ _ false (w8.drewN j) hb
  clear hd8 hd7 hf8 hn8 ho8 hsu hrm
  go_wp2_with (first
    | (go_at_call 46; refine HSU.out.mono ?_; rintro e w9 ⟨rfl, rfl⟩)
    | (go_at_call 51; refine HRM.out.mono ?_; rintro e w9 ⟨rfl, j, rfl⟩)
    | (go_at_call 50; refine (HBR.out _).mono ?_; rintro e w9 ⟨rfl, rfl⟩))
  go_ret
  exact ⟨rfl, below_drewN hb8 _⟩
end Go.Proofs.Ytjfbpnhkdlbinaa
