/- Open: the walk. All knots are found, in whatever row. Who uses whom, of longer rows. All knots in order: what its loops keep (lists). All knots in order: which names wait for which (lists). -/
import Derived.Test.YtcpgamidimfflaaGreatQ04
import Derived.Test.YtcpgamidimfflaaGreatQ29
import Derived.Test.YtcpgamidimfflaaGreatQ27
import Derived.Deep.DeepCutAuto
import Derived.Deep.LoopGhost
import Derived.WalkMore
import Derived.Deep.QuietTactic
import Derived.Test.YtcpgamidimfflaaGreatQ03
import Derived.Test.YtcpgamidimfflaaGreatQ28
namespace Go.Proofs.YtcpgamidimfflaaGreat
open Go.RowKit Go.My Go.Maps
set_option linter.unusedSimpArgs false
set_option linter.unusedVariables false
attribute [local go_sem ↓] Go.wp_at_zero Go.wp_at_succ
end Go.Proofs.YtcpgamidimfflaaGreat
namespace Go.Proofs.YtcpgamidimfflaaGreat
open Go.RowKit Go.My Go.Maps
set_option linter.unusedSimpArgs false
set_option linter.unusedVariables false
attribute [local go_sem ↓] Go.wp_at_zero Go.wp_at_succ
def ts0 : Ts := ⟨fun _ => 0, fun _ => 0, 0, [], []⟩
def FindB (B n : Nat) (G : List (List Int)) (ga : Option Addr) (w : World) (v : Value) (w' : World) : Prop := ∃ q p, v = .pointer (some ⟨q, 0, none⟩) ∧ p.ga = ga ∧ WkS B w' q p n G ts0 ∧ Fr No w w'
section
variable {w : World} {o1 o2 o3 o4 : Obj}
theorem four_1 : ((((w.alloc o1).alloc o2).alloc o3).alloc o4).drew.heap[w.heap.size]? = some o1 := by
  show ((((w.alloc o1).alloc o2).alloc o3).alloc o4).heap[w.heap.size]? = some o1
  rw [Below.heap_alloc _ _ _ (by simp only [World.size_alloc]; omega), Below.heap_alloc _ _ _ (by simp only [World.size_alloc]; omega), Below.heap_alloc _ _ _ (by simp only [World.size_alloc]; omega)]
  exact heap_alloc_new w o1
theorem four_2 : ((((w.alloc o1).alloc o2).alloc o3).alloc o4).drew.heap[w.heap.size + 1]? = some o2 := by
  show ((((w.alloc o1).alloc o2).alloc o3).alloc o4).heap[w.heap.size + 1]? = some o2
  rw [Below.heap_alloc _ _ _ (by simp only [World.size_alloc]; omega), Below.heap_alloc _ _ _ (by simp only [World.size_alloc]; omega)]
  have := heap_alloc_new (w.alloc o1) o2
  rwa [World.size_alloc] at this
theorem four_3 : ((((w.alloc o1).alloc o2).alloc o3).alloc o4).drew.heap[w.heap.size + 1 + 1]? = some o3 := by
  show ((((w.alloc o1).alloc o2).alloc o3).alloc o4).heap[w.heap.size + 1 + 1]? = some o3
  rw [Below.heap_alloc _ _ _ (by simp only [World.size_alloc]; omega)]
  have := heap_alloc_new ((w.alloc o1).alloc o2) o3
  rwa [World.size_alloc, World.size_alloc] at this
theorem four_4 : ((((w.alloc o1).alloc o2).alloc o3).alloc o4).drew.heap[w.heap.size + 1 + 1 + 1]? = some o4 := by
  have := heap_alloc_new (((w.alloc o1).alloc o2).alloc o3) o4
  rwa [World.size_alloc, World.size_alloc, World.size_alloc] at this
theorem four_fr : Fr No w ((((w.alloc o1).alloc o2).alloc o3).alloc o4).drew := (((((Fr.refl No w).alloc o1).alloc o2).alloc o3).alloc o4).drew
end
theorem zrow_own {W : World} {g n : Nat} {t : TypeId} {z : Value} (h : Blk W g t (zrow n z).toArray) (hn : n ≤ 1000) : Own W t 1 (.slice (some ⟨g, 0, none⟩) n n) n (zrow n z) := by
  have hl : (zrow n z).length = n := by simp [zrow]
  exact ⟨by rw [hl, Nat.mul_one], .inr ⟨g, n, _, rfl, h, Nat.le_refl _, by simp only [maxLen]; omega, by simp [zrow], by rw [Nat.mul_one]; show (zrow n z).take n = zrow n z; rw [List.take_of_length_le (by omega)]⟩⟩
theorem find_mem {w W : World} {F : Nat → Prop} {A : Option Addr} {c n : Nat} {G : List (List Int)} {q ps pl pb : Nat} (hg : RdG w F A G) (hF : ∀ k, F k → k < w.heap.size)
    (hw : Blk W q 265 #[.slice A n c, .slice (some ⟨ps, 0, none⟩) n n, .slice (some ⟨pl, 0, none⟩) n n, .int .i64 0, .slice none 0 0, .slice (some ⟨pb, 0, none⟩) n n, .slice none 0 0])
    (h1 : Blk W ps 3 (zrow n (.int .i64 0)).toArray) (h2 : Blk W pl 3 (zrow n (.int .i64 0)).toArray) (h3 : Blk W pb 4 (zrow n (.bool false)).toArray)
    (hne : ps ≠ pl) (hB : w.heap.size ≤ q ∧ w.heap.size ≤ ps ∧ w.heap.size ≤ pl ∧ w.heap.size ≤ pb) (hf : Fr No w W) (hn : n ≤ 1000) (hl : G.length = n) : FindB w.heap.size n G A w (.pointer (some ⟨q, 0, none⟩)) W := by
  refine ⟨q, ⟨A, c, ps, pl, pb, none, 0, none, 0⟩, rfl, rfl, ?_, hf⟩
  exact {
    blk := hw
    g := (hg.no hf).more hF
    gl := hl
    seen := by rw [show ns ts0.seen n = zrow n (.int .i64 0) from ns_zero n]; exact zrow_own h1 hn
    low := by rw [show ns ts0.low n = zrow n (.int .i64 0) from ns_zero n]; exact zrow_own h2 hn
    mark := by rw [show bl (fun k => ts0.loose.contains k) n = zrow n (.bool false) from bl_zero n]; exact zrow_own h3 hn
    loose := Own.nil _ _ _
    found := ⟨[], fun _ => False, Own.nil _ _ _, fun k hk => hk.elim, fun i K hi => by simp [ts0] at hi⟩
    new := ⟨hB.1, hB.2.1, hB.2.2.1, hB.2.2.2, fun k hk => by simp [Value.ownBlock] at hk, fun k hk => by simp [Value.ownBlock] at hk⟩
    ap := ⟨hne, by simp [Value.ownBlock], by simp [Value.ownBlock]⟩ }
theorem uns0 (n : Nat) : ts0.met + uns ts0 n = n := by
  show 0 + uns ts0 n = n
  unfold uns
  have h1 : (List.range n).filter (fun x => ts0.seen x == 0) = List.range n := List.filter_eq_self.2 (fun x _ => rfl)
  rw [h1, List.length_range, Nat.zero_add]
def FindL (w : World) (q n : Nat) (G : List (List Int)) (iv : Value) (wr : World) : Prop :=
  ∃ (k : Nat) (s : Ts) (p : Wp), iv = .int .i64 (k : Int) ∧ k ≤ n ∧ WkS w.heap.size wr q p n G s ∧ TI n (gm G) s [] ∧ s.met + uns s n = n ∧ (∀ x, x < k → s.seen x ≠ 0) ∧ Fr No w wr
def FindR (w : World) (n : Nat) (G : List (List Int)) (e : Ending) (w' : World) : Prop :=
  ∃ (s : Ts) (p : Wp) (vs : List Value) (KB : Nat → Prop), e = .returned (.slice p.fa s.found.length p.fc) ∧ TI n (gm G) s [] ∧ (∀ x, x < n → s.seen x ≠ 0) ∧ FdS w.heap.size w' p s vs KB ∧ (∀ k, (Value.slice p.fa s.found.length p.fc).ownBlock = some k → w.heap.size ≤ k) ∧ Fr No w w'
set_option maxRecDepth 100000 in
set_option maxHeartbeats 4000000 in
theorem find_any (w : World) (F : Nat → Prop) (A : Option Addr) (c : Nat) (G : List (List Int)) (hg : RdG w F A G) (hF : ∀ k, F k → k < w.heap.size) (hP : PlK G) (hn : G.length ≤ 1000) :
    Calls Tryz.prog 160 #[.slice A G.length c] w (FindR w G.length G) := by
  have hm1 := fun W => run_make1 (P := Tryz.prog) elKI zeroKI rfl .i64 .i64 G.length (by omega) (by simp only [maxLen]; omega) W
  have hm2 := fun W => run_make1 (P := Tryz.prog) elBo zeroBo rfl .i64 .i64 G.length (by omega) (by simp only [maxLen]; omega) W
  have HG := Lib.hid hg
  have HFL := Lib.hid hF
  have HP := Lib.hid hP
  clear hg hF hP
  go_enter Tryz.func160, Tryz.ntmps160
  go_upto_region 2 with (fail)
  go_cut [4] (fun a4 wx => FindB w.heap.size G.length G A w a4 wx)
  case first =>
    go_region_law (fail)
    all_goals go_wp2
    all_goals go_meet
    all_goals first
      | refine find_mem HG.out HFL.out four_4 ?_ ?_ ?_ ?_ ?_ four_fr hn rfl
      | refine find_mem HG.out HFL.out four_3 ?_ ?_ ?_ ?_ ?_ four_fr hn rfl
      | refine find_mem HG.out HFL.out four_2 ?_ ?_ ?_ ?_ ?_ four_fr hn rfl
      | refine find_mem HG.out HFL.out four_1 ?_ ?_ ?_ ?_ ?_ four_fr hn rfl
    all_goals first | exact four_1 | exact four_2 | exact four_3 | exact four_4 | omega
  case rest =>
    obtain ⟨q, p, rfl, hga, hs, hf⟩ := hcut
    have HS := Lib.hid hs
    have HF := Lib.hid hf
    clear hga hs hf hm1 hm2
    generalize hgn : G.length = n at *
    have HGN := Lib.hid hgn
    clear hgn
    go_wp2
    go_loopw [17] (fun iv wr => FindL w q n G iv wr) (fun iv _ => n - (intOf iv).toNat)
    case atStart => exact ⟨0, ts0, p, rfl, Nat.zero_le _, HS.out, TI.none n _, uns0 n, fun x hx => by omega, HF.out⟩
    case round =>
      obtain ⟨k, s, p2, rfl, hkn, hs, ht, hc, hall, hf⟩ := hrel
      have HS2 := Lib.hid hs
      have HT := Lib.hid ht
      have HC := Lib.hid hc
      have HA := Lib.hid hall
      have HF2 := Lib.hid hf
      have c1 := hs.blk.cell 1
      have c6 := hs.blk.cell 6
      simp only [List.getElem?_toArray, List.getElem?_cons_zero, List.getElem?_cons_succ] at c1 c6
      clear hs ht hc hall hf
      by_cases hk : k < n
      · obtain ⟨ad3, us, he3, _, hu3, hsc⟩ := HS2.out.seen.rd.at_ (k := k) hk
        injection he3 with he3
        subst he3
        rw [ns_at _ _ _ hk] at hu3
        injection hu3 with hu3
        subst hu3
        rw [add_zero] at hsc
        have hkI : (k : Int) < (n : Int) := by omega
        have hwk : wrap64 ((k : Int) + 1) = (k : Int) + 1 := by unfold wrap64; omega
        by_cases h0 : s.seen k = 0
        · have h0I : (s.seen k : Int) = 0 := by omega
          rw [h0I] at hsc
          have HFM := Lib.hid (from_any w.heap.size wr q p2 n G s k HS2.out HP.out HT.out HC.out h0 hk hn HF2.out.size)
          clear h0 h0I
          go_wp2_with (go_at_call 206; (with_reducible refine HFM.out.mono ?_); rintro _ w4 ⟨rfl, s4, p4, hs4, ht4, hc4, ho4, hk4, hf4⟩; have HS4 := Lib.hid hs4; have HT4 := Lib.hid ht4; have HC4 := Lib.hid hc4; have HO4 := Lib.hid ho4; have HK4 := Lib.hid hk4; have HF4 := Lib.hid hf4; clear hs4 ht4 hc4 ho4 hk4 hf4)
          go_roundw
          case measure => simp [intOf]; omega
          case rel =>
            refine ⟨k + 1, s4, p4, by go_num, hk, HS4.out, HT4.out, HC4.out, fun x hx => ?_, HF2.out.trans' HF4.out fun i hi hlt => by omega⟩
            by_cases e : x = k
            · rw [e]; exact HK4.out
            · exact HO4.out x (HA.out x (by omega))
        · have h0I : ((s.seen k : Int) == 0) = false := by rw [beq_eq_false_iff_ne]; omega
          have HNZ := Lib.hid h0
          clear h0
          go_wp2
          go_roundw
          case measure => simp [intOf]; omega
          case rel =>
            refine ⟨k + 1, s, p2, by go_num, hk, HS2.out, HT.out, HC.out, fun x hx => ?_, HF2.out⟩
            by_cases e : x = k
            · rw [e]; exact HNZ.out
            · exact HA.out x (by omega)
      · have hkI : ¬ (k : Int) < (n : Int) := by omega
        have hke : k = n := by omega
        go_wp2
        go_ret
        obtain ⟨vs, KB, hfd⟩ := HS2.out.found
        exact ⟨s, p2, vs, KB, rfl, HT.out, fun x hx => HA.out x (by omega), hfd, HS2.out.new.2.2.2.2.2, HF2.out⟩
end Go.Proofs.YtcpgamidimfflaaGreat
namespace Go.Proofs.YtcpgamidimfflaaGreat
open Go.RowKit Go.My Go.Maps
set_option linter.unusedSimpArgs false
set_option linter.unusedVariables false
attribute [local go_sem ↓] Go.wp_at_zero Go.wp_at_succ
set_option maxRecDepth 200000 in
set_option maxHeartbeats 2000000 in
theorem users_any2 (w : World) (F : Nat → Prop) (A : Option Addr) (c : Nat) (G : List (List Int)) (hg : RdG w F A G) (hn : G.length ≤ 1000) (hm : ∀ L ∈ G, L.length ≤ 20000) (hp : ∀ L ∈ G, ∀ x ∈ L, 0 ≤ x ∧ x < G.length) :
    Calls Tryz.prog 127 #[.slice A G.length c] w (RetG w (usersG G)) := by
  have HG := Lib.hid hg
  have HM : Hid (∀ k, (gat G k).length ≤ 20000) := fun k => by
    unfold gat
    by_cases hk : k < G.length
    · rw [List.getD_eq_getElem?_getD, List.getElem?_eq_getElem hk]
      exact hm _ (List.getElem_mem hk)
    · rw [List.getD_eq_getElem?_getD, List.getElem?_eq_none (by omega)]
      simp
  have hmk := fun W => run_make1 (P := Tryz.prog) elG zeroG rfl .i64 .i64 G.length (by omega) (by simp only [maxLen]; omega) W
  have HZ : Hid (IRows w.heap.size (w.alloc (.cells (zrow G.length (.slice none 0 0)).toArray 66)) w.heap.size (zrow G.length (.slice none 0 0)) (rows (usF G 0 0) G.length)) := by
    rw [usF_zero]
    exact IRows.zero w G.length (by omega)
  have HP : Hid (∀ i j (h : j < (gat G i).length), ∃ k : Nat, (gat G i)[j] = (k : Int) ∧ k < G.length) := fun i j h => by
    by_cases hi : i < G.length
    · have h2 := hp (gat G i) (by rw [gat_at hi]; exact List.getElem_mem hi) _ (List.getElem_mem h)
      exact ⟨(gat G i)[j].toNat, by omega, by omega⟩
    · unfold gat at h
      rw [List.getD_eq_getElem?_getD, List.getElem?_eq_none (by omega)] at h
      simp at h
  clear hg hm hp
  go_enter Tryz.func127, Tryz.ntmps127
  go_wp2
  go_loopw [13] (fun iv wr => UO w G iv wr) (fun iv _ => G.length - (intOf iv).toNat)
  case atStart => exact ⟨0, _, Nat.zero_le _, rfl, HZ.out, (Fr.refl _ _).alloc _⟩
  case round =>
    obtain ⟨i, vs, hi, rfl, hR, hfr⟩ := hrel
    by_cases hlt : i < G.length
    · obtain ⟨ad, A', c', rfl, hc0, hrow, hlc, hcm⟩ := HG.out.at_ i hlt
      have hc := hfr.cell_some hc0 (fun h => h)
      rw [← gat_at hlt] at hc hc0 hrow hlc
      have HR := Lib.hid hR
      have HFR := Lib.hid hfr
      have HROW : Hid (∀ W, Fr No w W → Rd W F 1 A' (gat G i).length (is_ (gat G i))) := fun W hW => hrow.fr (by decide) hW (fun _ _ _ h => h)
      have hml := HM.out i
      clear hR hfr hrow hc0
      have HGI : Hid (gat G i = gat G i) := rfl
      go_wp2
      generalize wr = wo at *
      go_loopw [20] (fun jv wr => UI w G i jv wr) (fun jv _ => (gat G i).length - (intOf jv).toNat)
      case atStart => exact ⟨0, vs, Nat.zero_le _, rfl, HR.out, HFR.out⟩
      case round =>
        obtain ⟨j, us, hj, rfl, hRj, hfj⟩ := hrel
        by_cases hlj : j < (gat G i).length
        · obtain ⟨ad2, u, rfl, _, hu, hx⟩ := (HROW.out wr hfj).at_ hlj
          rw [is_at _ j hlj] at hu
          injection hu with hu
          subst hu
          obtain ⟨kx, hkx, hkn⟩ := HP.out i j hlj
          have HPU : Hid ((rows (usF G i j) G.length).set kx (usF G i j kx ++ [(i : Int)]) = rows (usF G i (j + 1)) G.length) := usF_push hlj hkx
          rw [hkx] at hx
          obtain ⟨A1, c1, hv1, hcell, hown, hlc1, hcm1⟩ := hRj.cell (i := kx) (by rw [rows_length]; exact hkn)
          rw [rows_getE] at hv1 hcell hown hlc1
          have hpl := usF_len G 20000 HM.out i j kx
          have hpl2 : (i + 1) * 20000 ≤ 20020000 := by omega
          have HFJ := Lib.hid hfj
          have HRJ := Lib.hid hRj
          obtain ⟨cur, hcur⟩ := hRj.out.blk w.heap.size rfl
          have HV1 := Lib.hid hv1
          have HRW : Hid ((rows (usF G i j) G.length)[kx]? = some (usF G i j kx)) := rows_get _ _ _ hkn
          have HOW := Lib.hid hown
          have HCUR := Lib.hid hcur
          clear hRj hfj hv1 hcur hkx
          generalize hPL : usF G i j kx = L at *
          have hLl : (L.length : Int) ≤ 20020000 := by omega
          clear hpl hpl2
          go_wp2_with (at_builtin; refine wpList_app _ rfl (.tmp 29) (.tmp 31) 66 66 rfl elKI (HOW.out.alloc (.cells #[.int .i64 (i : Int)] 3)) rfl (Src.of_new (cs := #[.int .i64 (i : Int)]) (t := 3) wr.heap.size (heap_alloc_new wr _) Tryz.underlying66 rfl (by simp [Value.oneCell'])) rfl (by simp only [maxLen]; omega) (by omega) ?_; intro v3 w3 hown3 hfr3 hnew3; obtain ⟨A3, c3, rfl, -, -⟩ := hown3.form; have hne := HOW.out.ne_ HCUR.out (by decide); have hcu := (HCUR.out.alloc (.cells #[.int .i64 (i : Int)] 3)).fr hfr3 hne; have k1 := hcu.frozen kx; have kc := hfr3.cell_some (((Fr.refl No wr).alloc (.cells #[.int .i64 (i : Int)] 3)).cell_some hcell (fun h => h)) hne)
          have hput := (HRJ.out.no ((Fr.refl No wr).alloc (.cells #[.int .i64 (i : Int)] 3))).put (L' := L ++ [(i : Int)]) HV1.out HRW.out hfr3 (by rw [List.length_append, is_append]; exact hown3) (hnew3.imp id (fun e => ⟨_, e, Nat.le_refl _⟩)) (by have := HFJ.out.size; simp; omega) rfl
          rw [HPU.out] at hput
          have HPT := Lib.hid hput
          have HF3 : Hid (Fr No w (w3.setCell ⟨w.heap.size, kx, none⟩ (.slice A3 (L.length + 1) c3))) := ((HFJ.out.alloc (.cells #[.int .i64 (i : Int)] 3)).trans' hfr3 (fun k hk hlt => by
            have h1 := HRJ.out.new kx _ k HV1.out hk
            omega)).trans' (fr_set _ w.heap.size kx _) (fun k hk hlt => by
            have : k = w.heap.size := hk
            omega)
          clear hput hown3 hfr3 hnew3
          go_wp2
          go_roundw
          case rel => exact ⟨j + 1, _, by omega, by go_num, HPT.out, HF3.out⟩
          case measure => simp [intOf]; omega
        · obtain rfl : j = (gat G i).length := by omega
          rw [usF_next] at hRj
          have HRJ := Lib.hid hRj
          have HFJ := Lib.hid hfj
          clear hRj hfj
          go_wp2
          go_roundw
          case rel => exact ⟨i + 1, us, by omega, by go_num, HRJ.out, HFJ.out⟩
          case measure => simp [intOf]; omega
    · obtain rfl : i = G.length := by omega
      rw [usF_all] at hR
      have HR := Lib.hid hR
      have HFR := Lib.hid hfr
      have hlen : (usersG G).length = G.length := rows_length _ _
      clear hR hfr
      go_wp2
      go_ret
      exact ⟨w.heap.size, vs, by rw [hlen]; rfl, HR.out, HFR.out⟩
end Go.Proofs.YtcpgamidimfflaaGreat
namespace Go.Proofs.YtcpgamidimfflaaGreat
open Go.RowKit Go.My Go.My.Hp Go.My.Kn Go.Maps
set_option linter.unusedSimpArgs false
set_option linter.unusedVariables false
theorem RdG.lt {w : World} {F : Nat → Prop} {A : Option Addr} {G : List (List Int)} (h : RdG w F A G) : RdG w (fun k => F k ∧ k < w.heap.size) A G := by
  obtain ⟨vs, hr, hE⟩ := h
  refine ⟨vs, hr.lt (by omega), fun i L hL => ?_⟩
  obtain ⟨A', c, h1, h2, h3⟩ := hE i L hL
  exact ⟨A', c, h1, h2.lt (by omega), h3⟩
section
variable {Fd : List (List Nat)} {vs : List Value} {n i : Nat} {KV : List Value} {K : List Nat}
theorem fd_apart : ∀ {Fd : List (List Nat)}, Fd.flatten.Nodup → ∀ {t i : Nat} {K K' : List Nat} {x : Nat}, Fd[t]? = some K → Fd[i]? = some K' → x ∈ K → x ∈ K' → t = i
  | [], _, t, i, K, K', x, h1, _, _, _ => by simp at h1
  | L :: Fd, hnd, t, i, K, K', x, h1, h2, hx, hx' => by
    rw [List.flatten_cons, List.nodup_append] at hnd
    obtain ⟨_, hn2, hn3⟩ := hnd
    cases t with
    | zero =>
      cases i with
      | zero => rfl
      | succ i =>
        simp only [List.getElem?_cons_zero, List.getElem?_cons_succ] at h1 h2
        injection h1 with h1
        subst h1
        exact absurd rfl (hn3 x hx x (List.mem_flatten.2 ⟨K', List.mem_of_getElem? h2, hx'⟩))
    | succ t =>
      cases i with
      | zero =>
        simp only [List.getElem?_cons_zero, List.getElem?_cons_succ] at h1 h2
        injection h2 with h2
        subst h2
        exact absurd rfl (hn3 x hx' x (List.mem_flatten.2 ⟨K, List.mem_of_getElem? h1, hx⟩))
      | succ i =>
        simp only [List.getElem?_cons_succ] at h1 h2
        rw [fd_apart hn2 h1 h2 hx hx']
structure KP (n : Nat) (Fd : List (List Nat)) (vs : List Value) (i : Nat) (KV : List Value) : Prop where
  len : KV.length = n
  at_ : ∀ t K a, t < i → Fd[t]? = some K → K.head? = some a → KV[a]? = vs[t]?
  no : ∀ a, a < n → (∀ t K, t < i → Fd[t]? = some K → K.head? ≠ some a) → KV[a]? = some (.slice none 0 0)
theorem KP.zero : KP n Fd vs 0 (zrow n (.slice none 0 0)) :=
  ⟨by simp [zrow], fun t K a h => absurd h (Nat.not_lt_zero _), fun a ha _ => by simp [zrow, ha]⟩
theorem KP.step (h : KP n Fd vs i KV) (hnd : Fd.flatten.Nodup) {a : Nat} {v : Value} (hK : Fd[i]? = some K) (ha : K.head? = some a) (han : a < n) (hv : vs[i]? = some v) : KP n Fd vs (i + 1) (KV.set a v) := by
  have haK : a ∈ K := List.mem_of_mem_head? ha
  refine ⟨by rw [List.length_set]; exact h.len, fun t L b ht hL hb => ?_, fun b hb hno => ?_⟩
  · rcases Nat.lt_succ_iff_lt_or_eq.1 ht with ht | rfl
    · have hne : b ≠ a := fun e => by
        subst e
        have := fd_apart hnd hL hK (List.mem_of_mem_head? hb) haK
        omega
      rw [List.getElem?_set_ne (fun e => hne e.symm)]
      exact h.at_ t L b ht hL hb
    · rw [hK] at hL
      injection hL with hL
      subst hL
      rw [ha] at hb
      injection hb with hb
      subst hb
      rw [List.getElem?_set_self (by rw [h.len]; exact han), hv]
  · have hne : b ≠ a := fun e => by subst e; exact hno i K (Nat.lt_succ_self i) hK ha
    rw [List.getElem?_set_ne (fun e => hne e.symm)]
    exact h.no b hb fun t L ht hL => hno t L (Nat.lt_succ_of_lt ht) hL
def NP (Fd : List (List Nat)) (nmf : Nat → Nat) (i : Nat) (f : Nat → Nat) : Prop := ∀ t K, t < i → Fd[t]? = some K → ∀ x ∈ K, f x = nmf x
theorem NP.zero {nmf f : Nat → Nat} : NP Fd nmf 0 f := fun t K h => absurd h (Nat.not_lt_zero _)
theorem NP.up {nmf f : Nat → Nat} {a : Nat} (h : NP Fd nmf i f) : NP Fd nmf i (upN f a (nmf a)) := fun t K ht hK x hx => by
  by_cases e : x = a
  · rw [e, upN_at]
  · rw [upN_ne _ _ e]; exact h t K ht hK x hx
theorem NP.next {nmf f : Nat → Nat} (h : NP Fd nmf i f) (hK : Fd[i]? = some K) (hf : ∀ x ∈ K, f x = nmf x) : NP Fd nmf (i + 1) f := fun t L ht hL x hx => by
  rcases Nat.lt_succ_iff_lt_or_eq.1 ht with ht | rfl
  · exact h t L ht hL x hx
  · rw [hK] at hL; injection hL with hL; subst hL; exact hf x hx
end
theorem ns_congr {f g : Nat → Nat} {n : Nat} (h : ∀ k, k < n → f k = g k) : ns f n = ns g n := by
  unfold ns
  exact List.map_congr_left fun k hk => by rw [h k (List.mem_range.1 hk)]
theorem kp_all {G : List (List Int)} {Fd : List (List Nat)} {vs KV : List Value} {w : World} {KB : Nat → Prop} (h : KP G.length Fd vs Fd.length KV) (hk : ∀ K ∈ Fd, IsKnot (gn G) K) (hall : ∀ x, x < G.length ↔ ∃ K ∈ Fd, x ∈ K)
    (hrow : ∀ (i : Nat) (K : List Nat), Fd[i]? = some K → ∃ A c, vs[i]? = some (.slice A K.length c) ∧ Rd w KB 1 A K.length (nl K) ∧ K.length ≤ c ∧ c ≤ maxLen) :
    ∃ kv : Nat → Value, KV = (List.range G.length).map kv ∧ (∀ a, a < G.length → nm G.length (via' G) a = a → ∃ (A : Addr) (c : Nat), kv a = .slice (some A) (cls G.length (via' G) a).length c ∧ Rd w KB 1 (some A) (cls G.length (via' G) a).length (nl (cls G.length (via' G) a)) ∧ (cls G.length (via' G) a).length ≤ c ∧ c ≤ maxLen) ∧
      (∀ a, a < G.length → nm G.length (via' G) a ≠ a → kv a = .slice none 0 0) := by
  have hmem : ∀ {t : Nat} {K : List Nat}, Fd[t]? = some K → K ∈ Fd := fun h => List.mem_of_getElem? h
  have hlt : ∀ K ∈ Fd, ∀ y ∈ K, y < G.length := fun K hK y hy => (hall y).2 ⟨K, hK, hy⟩
  refine ⟨fun a => KV.getD a (.slice none 0 0), ?_, fun a ha hn => ?_, fun a ha hn => ?_⟩
  · apply List.ext_getElem?
    intro k
    by_cases hk2 : k < G.length
    · rw [List.getElem?_map, List.getElem?_range hk2]
      have : k < KV.length := by rw [h.len]; exact hk2
      simp [List.getElem?_eq_getElem this]
    · rw [List.getElem?_eq_none (by rw [h.len]; omega), List.getElem?_eq_none (by simp; omega)]
  · obtain ⟨K, hK, haK⟩ := (hall a).1 ha
    obtain ⟨t, ht, e⟩ := List.mem_iff_getElem.1 hK
    have hKt : Fd[t]? = some K := by rw [List.getElem?_eq_getElem ht, e]
    obtain ⟨a1, r, e1, e2⟩ := knot_head (hk K hK) (hlt K hK)
    obtain ⟨e3, e4⟩ := e2 a haK
    have ea : a1 = a := e3.symm.trans hn
    subst ea
    obtain ⟨A, c, r1, r2, r3, r4⟩ := hrow t K hKt
    have h1 := h.at_ t K a1 ht hKt (by rw [e1]; rfl)
    rw [r1] at h1
    obtain ⟨ad, hA, _⟩ := r2.2 (by rw [e1]; simp)
    subst hA
    rw [← e4]
    exact ⟨ad, c, by simp [h1], r2, r3, r4⟩
  · have h1 := h.no a ha fun t K ht hK e => by
      obtain ⟨a1, r, e1, e2⟩ := knot_head (hk K (hmem hK)) (hlt K (hmem hK))
      rw [e1] at e
      injection e with e
      subst e
      exact hn (e2 a1 (by rw [e1]; exact List.mem_cons_self)).1
    simp [h1]
end Go.Proofs.YtcpgamidimfflaaGreat
namespace Go.Proofs.YtcpgamidimfflaaGreat
open Go.RowKit Go.My Go.My.Hp Go.My.Kn Go.Maps
set_option linter.unusedSimpArgs false
set_option linter.unusedVariables false
def betR (G : List (List Int)) (i j : Nat) : List (List Int) := rows (fun a => il (betF G i j a)) G.length
def betW (G : List (List Int)) (i j : Nat) : Nat → Nat := fun a => (betF G i j a).length
theorem betR_zero (G : List (List Int)) : betR G 0 0 = List.replicate G.length [] := by
  rw [← rows_nil]
  exact rows_congr fun k _ => by rw [betF_zero]; rfl
theorem betW_zero (G : List (List Int)) : betW G 0 0 = fun _ => 0 := funext fun a => by unfold betW; rw [betF_zero]; rfl
theorem betR_next (G : List (List Int)) (i : Nat) : betR G i (gn G i).length = betR G (i + 1) 0 := rows_congr fun k _ => by rw [betF_next]
theorem betW_next (G : List (List Int)) (i : Nat) : betW G i (gn G i).length = betW G (i + 1) 0 := funext fun a => by unfold betW; rw [betF_next]
section
variable {G : List (List Int)} {i j : Nat}
theorem betR_push (hj : j < (gn G i).length) (hne : nm G.length (via' G) i ≠ nm G.length (via' G) (gn G i)[j]) :
    (betR G i j).set (nm G.length (via' G) i) (il (betF G i j (nm G.length (via' G) i)) ++ [(nm G.length (via' G) (gn G i)[j] : Int)]) = betR G i (j + 1) := by
  unfold betR
  rw [rows_set]
  refine rows_congr fun b _ => ?_
  rw [betF_push hj]
  by_cases e : b = nm G.length (via' G) i
  · subst e
    rw [if_pos rfl, if_pos ⟨rfl, fun e => hne e.symm⟩]
    unfold il
    rw [List.map_append]; rfl
  · rw [if_neg e, if_neg (fun h => e h.1.symm)]
theorem betW_push (hj : j < (gn G i).length) (hne : nm G.length (via' G) i ≠ nm G.length (via' G) (gn G i)[j]) :
    upN (betW G i j) (nm G.length (via' G) i) (betW G i j (nm G.length (via' G) i) + 1) = betW G i (j + 1) := by
  funext b
  by_cases e : b = nm G.length (via' G) i
  · subst e
    rw [upN_at]
    unfold betW
    rw [betF_push hj, if_pos ⟨rfl, fun e => hne e.symm⟩, List.length_append]; rfl
  · rw [upN_ne _ _ e]
    unfold betW
    rw [betF_push hj, if_neg (fun h => e h.1.symm)]
theorem bet_skip (hj : j < (gn G i).length) (he : nm G.length (via' G) i = nm G.length (via' G) (gn G i)[j]) (b : Nat) : betF G i (j + 1) b = betF G i j b := by
  rw [betF_push hj, if_neg (fun h => h.2 (by rw [← h.1]; exact he.symm))]
theorem betR_skip (hj : j < (gn G i).length) (he : nm G.length (via' G) i = nm G.length (via' G) (gn G i)[j]) : betR G i j = betR G i (j + 1) := rows_congr fun b _ => by rw [bet_skip hj he]
theorem betW_skip (hj : j < (gn G i).length) (he : nm G.length (via' G) i = nm G.length (via' G) (gn G i)[j]) : betW G i j = betW G i (j + 1) := funext fun b => by unfold betW; rw [bet_skip hj he]
theorem betF_len {M : Nat} (hM : ∀ k, (gn G k).length ≤ M) (i j a : Nat) : (betF G i j a).length ≤ (i + 1) * M := by
  have h1 : ∀ i, ((List.range i).flatMap fun u => if nm G.length (via' G) u = a then ((gn G u).filter fun v => nm G.length (via' G) v != a).map (nm G.length (via' G)) else []).length ≤ i * M := by
    intro i
    induction i with
    | zero => simp
    | succ i ih =>
      rw [List.range_succ, List.flatMap_append, List.length_append]
      have h2 : (List.flatMap (fun u => if nm G.length (via' G) u = a then ((gn G u).filter fun v => nm G.length (via' G) v != a).map (nm G.length (via' G)) else []) [i]).length ≤ M := by
        rw [List.flatMap_cons, List.flatMap_nil, List.append_nil]
        split
        · rw [List.length_map]; exact Nat.le_trans (List.length_filter_le _ _) (hM i)
        · exact Nat.zero_le _
      rw [Nat.succ_mul]
      omega
  unfold betF
  rw [List.length_append, Nat.succ_mul]
  have h3 := h1 i
  have h4 : (if nm G.length (via' G) i = a then (((gn G i).take j).filter fun v => nm G.length (via' G) v != a).map (nm G.length (via' G)) else []).length ≤ M := by
    split
    · rw [List.length_map]
      exact Nat.le_trans (List.length_filter_le _ _) (Nat.le_trans (by rw [List.length_take]; omega) (hM i))
    · exact Nat.zero_le _
  omega
end
theorem betF_len0 {G : List (List Int)} {M : Nat} (hM : ∀ k, (gn G k).length ≤ M) (i a : Nat) : (betF G i 0 a).length ≤ i * M := by
  cases i with
  | zero => rw [betF_zero]; simp
  | succ i => rw [← betF_next]; exact betF_len hM i _ a
theorem betG_lt {G : List (List Int)} {a b : Nat} (h : b ∈ betG G a) : b < G.length := by
  obtain ⟨u, v, _, _, e, hr, _⟩ := (betG_ok G).src a b h
  rw [← e]
  exact nm_lt (stp_lt G u v hr).2
def usN (G : List (List Int)) (b : Nat) : List Nat := (List.range G.length).flatMap fun a => ((betG G a).filter fun x => x == b).map fun _ => a
theorem betG_far (G : List (List Int)) (x : Nat) (h : G.length ≤ x) : betG G x = [] := by
  unfold betG betF
  rw [List.take_zero]
  have : (List.range G.length).flatMap (fun u => if nm G.length (via' G) u = x then ((gn G u).filter fun v => nm G.length (via' G) v != x).map (nm G.length (via' G)) else []) = [] := by
    rw [List.flatMap_eq_nil_iff]
    intro u hu
    rw [List.mem_range] at hu
    have := nm_lt (V := via' G) hu
    rw [if_neg (by omega)]
  rw [this]
  simp
theorem usN_count (G : List (List Int)) (b x : Nat) : (usN G b).count x = (betG G x).count b := by
  have key : ∀ m, ((List.range m).flatMap fun a => ((betG G a).filter fun y => y == b).map fun _ => a).count x = if x < m then (betG G x).count b else 0 := by
    intro m
    induction m with
    | zero => simp
    | succ m ih =>
      rw [List.range_succ, List.flatMap_append, List.count_append, ih, List.flatMap_cons, List.flatMap_nil, List.append_nil]
      have h1 : (((betG G m).filter fun y => y == b).map fun _ => m).count x = if x = m then (betG G m).count b else 0 := by
        by_cases e : x = m
        · subst e
          rw [if_pos rfl, List.map_const', List.count_replicate_self, ← List.countP_eq_length_filter]; rfl
        · rw [if_neg e, List.map_const', List.count_replicate, if_neg (by simpa using fun h => e h.symm)]
      rw [h1]
      by_cases e : x = m
      · subst e; rw [if_neg (Nat.lt_irrefl _), if_pos rfl, if_pos (Nat.lt_succ_self _)]; omega
      · by_cases e2 : x < m
        · rw [if_pos e2, if_neg e, if_pos (by omega)]; rfl
        · rw [if_neg e2, if_neg e, if_neg (by omega)]
  unfold usN
  rw [key]
  by_cases h : x < G.length
  · rw [if_pos h]
  · rw [if_neg h, betG_far G x (by omega)]; rfl
theorem gat_rows' (f : Nat → List Int) {n k : Nat} (h : k < n) : gat (rows f n) k = f k := by
  rw [gat_at (by rw [rows_length]; exact h), rows_getE]
theorem users_us (G : List (List Int)) (b : Nat) (hb : b < G.length) : gat (usersG (betR G G.length 0)) b = il (usN G b) := by
  have hl : (betR G G.length 0).length = G.length := rows_length _ _
  unfold usersG
  rw [hl, gat_rows' _ hb]
  unfold usN il
  rw [List.map_flatMap]
  have : ∀ l : List Nat, (∀ a ∈ l, a < G.length) → l.flatMap (fun a => usA (betR G G.length 0) a (gat (betR G G.length 0) a) b) = l.flatMap fun a => (((betG G a).filter fun x => x == b).map fun _ => a).map fun (x : Nat) => (x : Int) := by
    intro l hl
    induction l with
    | nil => rfl
    | cons a l ih =>
      rw [List.flatMap_cons, List.flatMap_cons, ih fun x hx => hl x (List.mem_cons_of_mem _ hx)]
      congr 1
      have ha := hl a List.mem_cons_self
      unfold betR
      rw [gat_rows' _ ha]
      unfold usA il betG
      rw [List.filter_map, List.map_map, List.map_map]
      congr 1
      apply List.filter_congr
      intro x _
      show ((x : Int) == (b : Int)) = (x == b)
      rw [Bool.eq_iff_iff, beq_iff_eq, beq_iff_eq]
      omega
  exact this _ fun a ha => List.mem_range.1 ha
theorem usN_len {G : List (List Int)} {M : Nat} (hM : ∀ a, (betG G a).length ≤ M) (b : Nat) : (usN G b).length ≤ G.length * M := by
  unfold usN
  generalize G.length = m
  induction m with
  | zero => simp
  | succ m ih =>
    rw [List.range_succ, List.flatMap_append, List.length_append, List.flatMap_cons, List.flatMap_nil, List.append_nil, List.length_map, Nat.succ_mul]
    have := hM m
    have := List.length_filter_le (fun x => x == b) (betG G m)
    omega
theorem ki_start {G : List (List Int)} {H : List Nat} (hnd : H.Nodup) (hH : ∀ b, b ∈ H ↔ b < G.length ∧ nm G.length (via' G) b = b ∧ betW G G.length 0 b = 0) : KI G.length (via' G) (betG G) [] (betW G G.length 0) H (fun _ => 0) where
  shut := Shut.nil
  waits b _ _ _ := by
    unfold open_ betW betG
    rw [List.filter_eq_self.2 (fun x _ => by simp)]; rfl
  heap b := by
    rw [hH]
    simp
  once := hnd
end Go.Proofs.YtcpgamidimfflaaGreat
