/- All knots are found, in whatever row. -/
import Derived.Test.YtcjofakhefpfdaaKnZ
import Derived.Test.YtcjofakhefpfdaaKnZ1
import Derived.Test.YtcjofakhefpfdaaKnQ
import Derived.Deep.DeepCutAuto
import Derived.Deep.LoopGhost
import Derived.WalkMore
import Derived.Deep.QuietTactic
namespace Go.Proofs.Ytcjofakhefpfdaa
open Go.RowKit Go.My Go.Maps
set_option linter.unusedSimpArgs false
set_option linter.unusedVariables false
attribute [local go_sem ↓] Go.wp_at_zero Go.wp_at_succ

/-- nothing is met yet -/
def ts0 : Ts := ⟨fun _ => 0, fun _ => 0, 0, [], []⟩
def FindB (B n : Nat) (G : List (List Int)) (ga : Option Addr) (w : World) (v : Value) (w' : World) : Prop := ∃ q p, v = .pointer (some ⟨q, 0, none⟩) ∧ p.ga = ga ∧ WkS B w' q p n G ts0 ∧ Fr No w w'

section
variable {w : World} {o1 o2 o3 o4 : Obj}
theorem four_1 : ((((w.alloc o1).alloc o2).alloc o3).alloc o4).drew.heap[w.heap.size]? = some o1 := by
  show ((((w.alloc o1).alloc o2).alloc o3).alloc o4).heap[w.heap.size]? = some o1
  rw [Below.heap_alloc _ _ _ (by simp only [World.size_alloc]; omega), Below.heap_alloc _ _ _ (by simp only [World.size_alloc]; omega), Below.heap_alloc _ _ _ (by simp only [World.size_alloc]; omega)]
  exact heap_alloc_new w o1
theorem four_2 : ((((w.alloc o1).alloc o2).alloc o3).alloc o4).drew.heap[w.heap.size + 1]? = some o2 := by
  show ((((w.alloc o1).alloc o2).alloc o3).alloc o4).heap[w.heap.size + 1]? = some o2
  rw [Below.heap_alloc _ _ _ (by simp only [World.size_alloc]; omega), Below.heap_alloc _ _ _ (by simp only [World.size_alloc]; omega)]
  have := heap_alloc_new (w.alloc o1) o2
  rwa [World.size_alloc] at this
theorem four_3 : ((((w.alloc o1).alloc o2).alloc o3).alloc o4).drew.heap[w.heap.size + 1 + 1]? = some o3 := by
  show ((((w.alloc o1).alloc o2).alloc o3).alloc o4).heap[w.heap.size + 1 + 1]? = some o3
  rw [Below.heap_alloc _ _ _ (by simp only [World.size_alloc]; omega)]
  have := heap_alloc_new ((w.alloc o1).alloc o2) o3
  rwa [World.size_alloc, World.size_alloc] at this
theorem four_4 : ((((w.alloc o1).alloc o2).alloc o3).alloc o4).drew.heap[w.heap.size + 1 + 1 + 1]? = some o4 := by
  have := heap_alloc_new (((w.alloc o1).alloc o2).alloc o3) o4
  rwa [World.size_alloc, World.size_alloc, World.size_alloc] at this
theorem four_fr : Fr No w ((((w.alloc o1).alloc o2).alloc o3).alloc o4).drew := (((((Fr.refl No w).alloc o1).alloc o2).alloc o3).alloc o4).drew
end
theorem zrow_own {W : World} {g n : Nat} {t : TypeId} {z : Value} (h : Blk W g t (zrow n z).toArray) (hn : n ≤ 1000) : Own W t 1 (.slice (some ⟨g, 0, none⟩) n n) n (zrow n z) := by
  have hl : (zrow n z).length = n := by simp [zrow]
  exact ⟨by rw [hl, Nat.mul_one], .inr ⟨g, n, _, rfl, h, Nat.le_refl _, by simp only [maxLen]; omega, by simp [zrow], by rw [Nat.mul_one]; show (zrow n z).take n = zrow n z; rw [List.take_of_length_le (by omega)]⟩⟩
theorem find_mem {w W : World} {F : Nat → Prop} {A : Option Addr} {c n : Nat} {G : List (List Int)} {q ps pl pb : Nat} (hg : RdG w F A G) (hF : ∀ k, F k → k < w.heap.size)
    (hw : Blk W q 46 #[.slice A n c, .slice (some ⟨ps, 0, none⟩) n n, .slice (some ⟨pl, 0, none⟩) n n, .int .i64 0, .slice none 0 0, .slice (some ⟨pb, 0, none⟩) n n, .slice none 0 0])
    (h1 : Blk W ps 3 (zrow n (.int .i64 0)).toArray) (h2 : Blk W pl 3 (zrow n (.int .i64 0)).toArray) (h3 : Blk W pb 4 (zrow n (.bool false)).toArray)
    (hne : ps ≠ pl) (hB : w.heap.size ≤ q ∧ w.heap.size ≤ ps ∧ w.heap.size ≤ pl ∧ w.heap.size ≤ pb) (hf : Fr No w W) (hn : n ≤ 1000) (hl : G.length = n) : FindB w.heap.size n G A w (.pointer (some ⟨q, 0, none⟩)) W := by
  refine ⟨q, ⟨A, c, ps, pl, pb, none, 0, none, 0⟩, rfl, rfl, ?_, hf⟩
  exact {
    blk := hw
    g := (hg.no hf).more hF
    gl := hl
    seen := by rw [show ns ts0.seen n = zrow n (.int .i64 0) from ns_zero n]; exact zrow_own h1 hn
    low := by rw [show ns ts0.low n = zrow n (.int .i64 0) from ns_zero n]; exact zrow_own h2 hn
    mark := by rw [show bl (fun k => ts0.loose.contains k) n = zrow n (.bool false) from bl_zero n]; exact zrow_own h3 hn
    loose := Own.nil _ _ _
    found := ⟨[], fun _ => False, Own.nil _ _ _, fun k hk => hk.elim, fun i K hi => by simp [ts0] at hi⟩
    new := ⟨hB.1, hB.2.1, hB.2.2.1, hB.2.2.2, fun k hk => by simp [Value.ownBlock] at hk, fun k hk => by simp [Value.ownBlock] at hk⟩
    ap := ⟨hne, by simp [Value.ownBlock], by simp [Value.ownBlock]⟩ }

theorem uns0 (n : Nat) : ts0.met + uns ts0 n = n := by
  show 0 + uns ts0 n = n
  unfold uns
  have h1 : (List.range n).filter (fun x => ts0.seen x == 0) = List.range n := List.filter_eq_self.2 (fun x _ => rfl)
  rw [h1, List.length_range, Nat.zero_add]
/-- the first k places are met -/
def FindL (w : World) (q n : Nat) (G : List (List Int)) (iv : Value) (wr : World) : Prop :=
  ∃ (k : Nat) (s : Ts) (p : Wp), iv = .int .i64 (k : Int) ∧ k ≤ n ∧ WkS w.heap.size wr q p n G s ∧ TI n (gm G) s [] ∧ s.met + uns s n = n ∧ (∀ x, x < k → s.seen x ≠ 0) ∧ Fr No w wr
/-- what find hands back -/
def FindR (w : World) (n : Nat) (G : List (List Int)) (e : Ending) (w' : World) : Prop :=
  ∃ (s : Ts) (p : Wp) (vs : List Value) (KB : Nat → Prop), e = .returned (.slice p.fa s.found.length p.fc) ∧ TI n (gm G) s [] ∧ (∀ x, x < n → s.seen x ≠ 0) ∧ FdS w.heap.size w' p s vs KB ∧ (∀ k, (Value.slice p.fa s.found.length p.fc).ownBlock = some k → w.heap.size ≤ k) ∧ Fr No w w'

set_option maxRecDepth 100000 in
set_option maxHeartbeats 4000000 in
theorem find_any (w : World) (F : Nat → Prop) (A : Option Addr) (c : Nat) (G : List (List Int)) (hg : RdG w F A G) (hF : ∀ k, F k → k < w.heap.size) (hP : Pl G) (hn : G.length ≤ 1000) :
    Calls Try.prog 21 #[.slice A G.length c] w (FindR w G.length G) := by
  have hm1 := fun W => run_make1 (P := Try.prog) elI zeroI rfl .i64 .i64 G.length (by omega) (by simp only [maxLen]; omega) W
  have hm2 := fun W => run_make1 (P := Try.prog) elBo zeroBo rfl .i64 .i64 G.length (by omega) (by simp only [maxLen]; omega) W
  have HG := Lib.hid hg
  have HFL := Lib.hid hF
  have HP := Lib.hid hP
  clear hg hF hP
  go_enter Try.func21, Try.ntmps21
  go_upto_region 2 with (fail)
  go_cut [4] (fun a4 wx => FindB w.heap.size G.length G A w a4 wx)
  case first =>
    go_region_law (fail)
    all_goals go_wp2
    all_goals go_meet
    all_goals first
      | refine find_mem HG.out HFL.out four_4 ?_ ?_ ?_ ?_ ?_ four_fr hn rfl
      | refine find_mem HG.out HFL.out four_3 ?_ ?_ ?_ ?_ ?_ four_fr hn rfl
      | refine find_mem HG.out HFL.out four_2 ?_ ?_ ?_ ?_ ?_ four_fr hn rfl
      | refine find_mem HG.out HFL.out four_1 ?_ ?_ ?_ ?_ ?_ four_fr hn rfl
    all_goals first | exact four_1 | exact four_2 | exact four_3 | exact four_4 | omega
  case rest =>
    obtain ⟨q, p, rfl, hga, hs, hf⟩ := hcut
    have HS := Lib.hid hs
    have HF := Lib.hid hf
    clear hga hs hf hm1 hm2
    generalize hgn : G.length = n at *
    have HGN := Lib.hid hgn
    clear hgn
    go_wp2
    go_loopw [17] (fun iv wr => FindL w q n G iv wr) (fun iv _ => n - (intOf iv).toNat)
    case atStart => exact ⟨0, ts0, p, rfl, Nat.zero_le _, HS.out, TI.none n _, uns0 n, fun x hx => by omega, HF.out⟩
    case round =>
      obtain ⟨k, s, p2, rfl, hkn, hs, ht, hc, hall, hf⟩ := hrel
      have HS2 := Lib.hid hs
      have HT := Lib.hid ht
      have HC := Lib.hid hc
      have HA := Lib.hid hall
      have HF2 := Lib.hid hf
      have c1 := hs.blk.cell 1
      have c6 := hs.blk.cell 6
      simp only [List.getElem?_toArray, List.getElem?_cons_zero, List.getElem?_cons_succ] at c1 c6
      clear hs ht hc hall hf
      by_cases hk : k < n
      · obtain ⟨ad3, us, he3, _, hu3, hsc⟩ := HS2.out.seen.rd.at_ (k := k) hk
        injection he3 with he3
        subst he3
        rw [ns_at _ _ _ hk] at hu3
        injection hu3 with hu3
        subst hu3
        rw [add_zero] at hsc
        have hkI : (k : Int) < (n : Int) := by omega
        have hwk : wrap64 ((k : Int) + 1) = (k : Int) + 1 := by unfold wrap64; omega
        by_cases h0 : s.seen k = 0
        · have h0I : (s.seen k : Int) = 0 := by omega
          rw [h0I] at hsc
          have HFM := Lib.hid (from_any w.heap.size wr q p2 n G s k HS2.out HP.out HT.out HC.out h0 hk hn HF2.out.size)
          clear h0 h0I
          go_wp2_with (go_at_call 27; (with_reducible refine HFM.out.mono ?_); rintro _ w4 ⟨rfl, s4, p4, hs4, ht4, hc4, ho4, hk4, hf4⟩; have HS4 := Lib.hid hs4; have HT4 := Lib.hid ht4; have HC4 := Lib.hid hc4; have HO4 := Lib.hid ho4; have HK4 := Lib.hid hk4; have HF4 := Lib.hid hf4; clear hs4 ht4 hc4 ho4 hk4 hf4)
          go_roundw
          case measure => simp [intOf]; omega
          case rel =>
            refine ⟨k + 1, s4, p4, by go_num, hk, HS4.out, HT4.out, HC4.out, fun x hx => ?_, HF2.out.trans' HF4.out fun i hi hlt => by omega⟩
            by_cases e : x = k
            · rw [e]; exact HK4.out
            · exact HO4.out x (HA.out x (by omega))
        · have h0I : ((s.seen k : Int) == 0) = false := by rw [beq_eq_false_iff_ne]; omega
          have HNZ := Lib.hid h0
          clear h0
          go_wp2
          go_roundw
          case measure => simp [intOf]; omega
          case rel =>
            refine ⟨k + 1, s, p2, by go_num, hk, HS2.out, HT.out, HC.out, fun x hx => ?_, HF2.out⟩
            by_cases e : x = k
            · rw [e]; exact HNZ.out
            · exact HA.out x (by omega)
      · have hkI : ¬ (k : Int) < (n : Int) := by omega
        have hke : k = n := by omega
        go_wp2
        go_ret
        obtain ⟨vs, KB, hfd⟩ := HS2.out.found
        exact ⟨s, p2, vs, KB, rfl, HT.out, fun x hx => HA.out x (by omega), hfd, HS2.out.new.2.2.2.2.2, HF2.out⟩
end Go.Proofs.Ytcjofakhefpfdaa
