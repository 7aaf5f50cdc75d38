/- The heap of names: its memory, how its methods are reached, and what they do. The heap of names: what its methods do. The heap of names: one that goes up. The heap of names: one that goes down. -/
import Derived.Test.YtcpgamidimfflaaGreatQ02
import Derived.Test.YtcpgamidimfflaaGreatQ24
import Derived.Deep.RegionHeld3
import Derived.Deep.DrawnRows
import Derived.Deep.QuietTactic
import Derived.BigQuiet
import Derived.Deep.RegionLaw
namespace Go.Proofs.YtcpgamidimfflaaGreat
open Go.RowKit Go.My Go.My.Hp Go.Maps
set_option linter.unusedSimpArgs false
set_option linter.unusedVariables false
attribute [local go_sem ↓] Go.wp_at_zero Go.wp_at_succ
theorem elKR : El Tryz.prog 223 3 1 8 := ⟨Tryz.underlying223, by
  have h : (Tryz.prog.info? 3).map (fun i => (i.zero, i.size, i.bytes)) = some (some (.int .i64 0), 1, 8) := by kernel_rfl
  obtain ⟨i, hi, hz, hs, hb⟩ := info_parts h
  exact ⟨i, _, hi, hz, hs, hb, rfl⟩, by omega⟩
theorem his_at (l : List Int) (k : Nat) (h : k < l.length) : (is_ l)[k]? = some (.int .i64 l[k]) := by simp [is_, h]
section
variable {W : World} {p : Nat} {v : Value}
theorem m_len (h : W.cell? ⟨p, 0, none⟩ = some v) : (method 453 222 (.pointer (some ⟨p, 0, none⟩)) "Len").run Tryz.prog W = .ok (208, v) W := by
  have h1 : (method 453 222 (.pointer (some ⟨p, 0, none⟩)) "Len").run Tryz.prog W = (do let r ← loadVar 223 ⟨p, 0, none⟩; pure (208, r) : Sem (FuncId × Value)).run Tryz.prog W := by kernel_rfl
  rw [h1]
  simp [go_sem, h]
theorem m_less (h : W.cell? ⟨p, 0, none⟩ = some v) : (method 453 222 (.pointer (some ⟨p, 0, none⟩)) "Less").run Tryz.prog W = .ok (307, v) W := by
  have h1 : (method 453 222 (.pointer (some ⟨p, 0, none⟩)) "Less").run Tryz.prog W = (do let r ← loadVar 223 ⟨p, 0, none⟩; pure (307, r) : Sem (FuncId × Value)).run Tryz.prog W := by kernel_rfl
  rw [h1]
  simp [go_sem, h]
theorem m_swap (h : W.cell? ⟨p, 0, none⟩ = some v) : (method 453 222 (.pointer (some ⟨p, 0, none⟩)) "Swap").run Tryz.prog W = .ok (310, v) W := by
  have h1 : (method 453 222 (.pointer (some ⟨p, 0, none⟩)) "Swap").run Tryz.prog W = (do let r ← loadVar 223 ⟨p, 0, none⟩; pure (310, r) : Sem (FuncId × Value)).run Tryz.prog W := by kernel_rfl
  rw [h1]
  simp [go_sem, h]
theorem m_push : (method 453 222 (.pointer (some ⟨p, 0, none⟩)) "Push").run Tryz.prog W = .ok (309, .pointer (some ⟨p, 0, none⟩)) W := by kernel_rfl
theorem m_pop : (method 453 222 (.pointer (some ⟨p, 0, none⟩)) "Pop").run Tryz.prog W = .ok (308, .pointer (some ⟨p, 0, none⟩)) W := by kernel_rfl
theorem n_len : (nilAhead 453 222 (.pointer (some ⟨p, 0, none⟩)) "Len").run Tryz.prog W = .ok (some false) W := by kernel_rfl
theorem n_less : (nilAhead 453 222 (.pointer (some ⟨p, 0, none⟩)) "Less").run Tryz.prog W = .ok (some false) W := by kernel_rfl
theorem n_swap : (nilAhead 453 222 (.pointer (some ⟨p, 0, none⟩)) "Swap").run Tryz.prog W = .ok (some false) W := by kernel_rfl
theorem n_push : (nilAhead 453 222 (.pointer (some ⟨p, 0, none⟩)) "Push").run Tryz.prog W = .ok (some false) W := by kernel_rfl
theorem n_pop : (nilAhead 453 222 (.pointer (some ⟨p, 0, none⟩)) "Pop").run Tryz.prog W = .ok (some false) W := by kernel_rfl
end
structure HpS (B : Nat → Prop) (w : World) (p : Nat) (A : Option Addr) (c : Nat) (L : List Int) : Prop where
  lo : B p
  up : ∀ k, w.heap.size ≤ k → B k
  blk : Blk w p 223 #[.slice A L.length c]
  row : Own w 3 1 (.slice A L.length c) L.length (is_ L)
  new : ∀ k, (Value.slice A L.length c).ownBlock = some k → B k
section
variable {B : Nat → Prop} {w w' : World} {p : Nat} {A : Option Addr} {c : Nat} {L : List Int}
theorem HpS.fr {S : Nat → Prop} (h : HpS B w p A c L) (hf : Fr S w w') (h1 : ¬ S p) (h2 : ∀ k, (Value.slice A L.length c).ownBlock = some k → ¬ S k) : HpS B w' p A c L :=
  ⟨h.lo, fun k hk => h.up k (Nat.le_trans hf.size hk), h.blk.fr hf h1, h.row.fr hf h2, h.new⟩
theorem HpS.no (h : HpS B w p A c L) (hf : Fr No w w') : HpS B w' p A c L := h.fr hf (fun h => h) fun _ _ h => h
theorem HpS.cell (h : HpS B w p A c L) : w.cell? ⟨p, 0, none⟩ = some (.slice A L.length c) := by rw [h.blk.cell]; rfl
theorem HpS.le (h : HpS B w p A c L) : L.length ≤ c ∧ c ≤ maxLen := by
  obtain ⟨A', c', e, h1, h2⟩ := h.row.form
  injection e with _ _ e
  subst e
  exact ⟨h1, h2⟩
theorem HpS.item (h : HpS B w p A c L) (i : Nat) (hi : i < L.length) : ∃ g, A = some ⟨g, 0, none⟩ ∧ B g ∧ g ≠ p ∧ w.cell? ⟨g, i, none⟩ = some (.int .i64 (at_ L i)) ∧ w.frozen? ⟨g, i, none⟩ = false := by
  obtain ⟨g, c', cur, e, hg, _⟩ := h.row.formPos (by omega)
  have e' := e
  injection e with e1 _ e2
  subst e1 e2
  obtain ⟨_, _, hz⟩ := h.row.store i hi (.int .i64 0)
  obtain ⟨ad, u, he, _, hu, hc⟩ := h.row.rd.at_ hi
  injection he with he
  subst he
  rw [his_at L i hi] at hu
  injection hu with hu
  subst hu
  rw [add_zero] at hc
  refine ⟨g, rfl, h.new g rfl, fun e => ?_, ?_, hz⟩
  · subst e; exact Blk.ne_ hg h.blk (by decide) rfl
  · rw [at_lt hi]; exact hc
theorem HpS.swap {g : Nat} (h : HpS B w p (some ⟨g, 0, none⟩) c L) (i j : Nat) (hi : i < L.length) (hj : j < L.length) :
    HpS B ((w.setCell ⟨g, i, none⟩ (.int .i64 (at_ L j))).setCell ⟨g, j, none⟩ (.int .i64 (at_ L i))) p (some ⟨g, 0, none⟩) c (swl L i j) := by
  obtain ⟨g', hg, _, hgp, _⟩ := h.item i hi
  obtain rfl : g = g' := by injection hg with e; injection e
  have o1 := (h.row.store i hi (.int .i64 (at_ L j))).1
  have o2 := (o1.store j hj (.int .i64 (at_ L i))).1
  have e : ((is_ L).set i (.int .i64 (at_ L j))).set j (.int .i64 (at_ L i)) = is_ (swl L i j) := by
    unfold is_ swl; rw [List.map_set, List.map_set]
  rw [e] at o2
  have hl := swl_length L i j
  refine ⟨h.lo, fun k hk => h.up k (by rw [World.size_setCell, World.size_setCell] at hk; exact hk), ?_, ?_, ?_⟩
  · rw [hl]; exact (h.blk.far (p := ⟨g, i, none⟩) (fun e => hgp e.symm) _).far (p := ⟨g, j, none⟩) (fun e => hgp e.symm) _
  · rw [hl]; exact o2
  · rw [hl]; exact h.new
end
end Go.Proofs.YtcpgamidimfflaaGreat
namespace Go.Proofs.YtcpgamidimfflaaGreat
open Go.RowKit Go.My Go.My.Hp Go.Maps
set_option linter.unusedSimpArgs false
set_option linter.unusedVariables false
attribute [local go_sem ↓] Go.wp_at_zero Go.wp_at_succ
theorem is_cut (L : List Int) (x : Int) : (is_ (L ++ [x])).take L.length = is_ L := by unfold is_; simp
theorem own_cutL {w : World} {t : TypeId} {A : Option Addr} {n c k : Nat} {xs : List Value} (h : Own w t 1 (.slice A n c) n xs) (hk : k ≤ n) : Own w t 1 (.slice A k c) k (xs.take k) := by
  obtain ⟨h1, h2⟩ := h
  refine ⟨by rw [List.length_take]; omega, ?_⟩
  rcases h2 with ⟨hv, h0⟩ | ⟨g, cap, cur, hv, hg, hn, hm, hs, ht⟩
  · injection hv with hA hn hc
    subst hA hc h0
    obtain rfl : k = 0 := by omega
    exact .inl ⟨rfl, rfl⟩
  · injection hv with hA hn2 hc
    subst hA hc
    refine .inr ⟨g, c, cur, rfl, hg, by omega, hm, hs, ?_⟩
    rw [← ht, List.take_take, Nat.mul_one, Nat.mul_one, Nat.min_eq_left hk]
theorem hlen_any (w : World) (A : Option Addr) (n c : Nat) : Calls Tryz.prog 208 #[.slice A n c] w fun e w' => e = .returned (.int .i64 (n : Int)) ∧ w' = w := by
  go_enter Tryz.func208, Tryz.ntmps208
  go_wp2
  go_ret
  exact ⟨rfl, rfl⟩
set_option maxHeartbeats 1000000 in
theorem hless_any {B : Nat → Prop} {w : World} {p : Nat} {A : Option Addr} {c : Nat} {L : List Int} (h : HpS B w p A c L) (i j : Nat) (hi : i < L.length) (hj : j < L.length) :
    Calls Tryz.prog 307 #[.slice A L.length c, .int .i64 (i : Int), .int .i64 (j : Int)] w fun e w' => e = .returned (.bool (decide (at_ L i < at_ L j))) ∧ Fr No w w' := by
  obtain ⟨g, rfl, _, _, c1, _⟩ := h.item i hi
  obtain ⟨g', hg, _, _, c2, _⟩ := h.item j hj
  obtain rfl : g = g' := by injection hg with e; injection e
  have hiI : (i : Int) < (L.length : Int) := by omega
  have hjI : (j : Int) < (L.length : Int) := by omega
  obtain ⟨b, hb⟩ : ∃ b, b = decide (at_ L i < at_ L j) := ⟨_, rfl⟩
  rw [← hb]
  generalize at_ L i = x at *
  generalize at_ L j = y at *
  have HB := Lib.hid hb
  clear h hg hb
  go_enter Tryz.func307, Tryz.ntmps307
  go_wp2
  go_quiet (fail)
  go_wp2
  go_ret
  rw [HB.out]
  exact ⟨rfl, (Fr.refl _ _).drewN _⟩
set_option maxHeartbeats 4000000 in
theorem hswap_any {B : Nat → Prop} {w : World} {p : Nat} {A : Option Addr} {c : Nat} {L : List Int} (h : HpS B w p A c L) (i j : Nat) (hi : i < L.length) (hj : j < L.length) :
    Calls Tryz.prog 310 #[.slice A L.length c, .int .i64 (i : Int), .int .i64 (j : Int)] w fun e w' => e = .returned (.tuple #[]) ∧ HpS B w' p A c (swl L i j) ∧ Fr (AtO (Value.slice A L.length c).ownBlock) w w' := by
  have HH := Lib.hid h
  obtain ⟨g, rfl, _, _, c1, z1⟩ := h.item i hi
  obtain ⟨g', hg, _, _, c2, z2⟩ := h.item j hj
  obtain rfl : g = g' := by injection hg with e; injection e
  have hiI : (i : Int) < (L.length : Int) := by omega
  have hjI : (j : Int) < (L.length : Int) := by omega
  have HI := Lib.hid hi
  have HJ := Lib.hid hj
  clear h hg hi hj
  by_cases hij : i = j
  · subst hij
    go_enter Tryz.func310, Tryz.ntmps310
    go_wp2
    go_region_law (fail)
    all_goals
      refine bodyPost_end (v := .tuple #[]) ?_ rfl ?_
      · simp [results, Tryz.results310, go_sem]
      refine ⟨rfl, (HH.out.swap i i HI.out HJ.out).no ((Fr.refl _ _).drew), ?_⟩
      exact (((Fr.refl (AtO (some g)) w).setCell (p := ⟨g, i, none⟩) (fun _ => rfl) _).setCell (p := ⟨g, i, none⟩) (fun _ => rfl) _).drew
  · go_enter Tryz.func310, Tryz.ntmps310
    go_wp2
    go_region_law (fail)
    all_goals
      refine bodyPost_end (v := .tuple #[]) ?_ rfl ?_
      · simp [results, Tryz.results310, go_sem]
      refine ⟨rfl, (HH.out.swap i j HI.out HJ.out).no ((Fr.refl _ _).drew), ?_⟩
      exact (((Fr.refl (AtO (some g)) w).setCell (p := ⟨g, i, none⟩) (fun _ => rfl) _).setCell (p := ⟨g, j, none⟩) (fun _ => rfl) _).drew
set_option maxHeartbeats 4000000 in
theorem hpushm_any {B : Nat → Prop} {w : World} {p : Nat} {A : Option Addr} {c : Nat} {L : List Int} (h : HpS B w p A c L) (x : Int) (hn : L.length ≤ 1000000) :
    Calls Tryz.prog 309 #[.pointer (some ⟨p, 0, none⟩), .iface 3 (.int .i64 x)] w fun e w' => e = .returned (.tuple #[]) ∧ ∃ A' c', HpS B w' p A' c' (L ++ [x]) ∧ Fr (Go.My.At2 p (Value.slice A L.length c).ownBlock) w w' := by
  have HH := Lib.hid h
  have c1 := h.cell
  have z1 := h.blk.frozen 0
  have hX : Hid (L.length + 1 ≤ maxLen ∧ (L.length + 1) * 8 ≤ 140737488355328) := by
    refine ⟨?_, ?_⟩ <;> (try simp only [maxLen]) <;> omega
  have hpl := h.blk.lt
  have hta : ∀ W : World, (Instr.typeAssert (.iface 3 (.int .i64 x)) 20 3 false).run Tryz.prog W = .ok (.int .i64 x) W := fun W => by kernel_rfl
  clear h hn
  go_enter Tryz.func309, Tryz.ntmps309
  go_wp2
  go_region_law (refine step_app _ rfl (.tmp 7) (.tmp 10) 223 223 rfl elKR (HH.out.row.alloc _) rfl (Src.of_new (cs := #[.int .i64 x]) (t := 3) w.heap.size (heap_alloc_new w _) Tryz.underlying223 rfl (by simp [Value.oneCell'])) rfl hX.out.1 hX.out.2 ?_; intro v3 w3 hown3 hf3 hn3; obtain ⟨A3, c3, rfl, -, -⟩ := hown3.form; have hb3 := (HH.out.blk.alloc (.cells #[.int .i64 x] 3)).drew.fr hf3 (HH.out.row.ne_ HH.out.blk (by decide)); have k3 := hb3.cell 0; simp only [List.getElem?_toArray, List.getElem?_cons_zero] at k3; have z3 := hb3.frozen 0; have HB3 := Lib.hid hb3; clear hb3; have HO := Lib.hid hown3; have HF := Lib.hid hf3; have HN := Lib.hid hn3; clear hown3 hf3 hn3)
  all_goals
    refine bodyPost_end (v := .tuple #[]) ?_ rfl ?_
    · simp [results, Tryz.results309, go_sem]
    have hl : (L ++ [x]).length = L.length + 1 := by simp
    have ho : Own w3 3 1 (.slice A3 (L.length + 1) c3) (L.length + 1) (is_ (L ++ [x])) := by
      have h1 := HO.out
      rwa [show is_ L ++ (#[Value.int .i64 x] : Array Value).toList = is_ (L ++ [x]) by simp [is_]] at h1
    refine ⟨rfl, A3, c3, ⟨HH.out.lo, fun k hk => HH.out.up k (by rw [World.size_setCell] at hk; have h5 := HF.out.size; have h6 : (w.alloc (Obj.cells #[Value.int IntKind.i64 x] 3)).drew.heap.size = w.heap.size + 1 := World.size_alloc ..; omega), ?_, ?_, fun k hk => ?_⟩, ?_⟩
    · rw [hl]; exact HB3.out.set_ 0 _
    · rw [hl]; exact ho.setCell (p := ⟨p, 0, none⟩) (ho.ne_ HB3.out (by decide)) _
    · rw [hl] at hk
      rcases HN.out with e | e
      · exact HH.out.new k (e ▸ hk)
      · rw [e] at hk
        injection hk with hk
        have h3 : (w.alloc (Obj.cells #[Value.int IntKind.i64 x] 3)).drew.heap.size = w.heap.size + 1 := World.size_alloc ..
        exact HH.out.up k (by omega)
    · exact ((((Fr.refl (Go.My.At2 p (Value.slice A L.length c).ownBlock) w).alloc _).drew).trans' HF.out (fun k hk _ => .inr hk)).setCell (p := ⟨p, 0, none⟩) (fun _ => .inl rfl) _
set_option maxHeartbeats 4000000 in
theorem hpopm_any {B : Nat → Prop} {w : World} {p : Nat} {A : Option Addr} {c : Nat} {L : List Int} {x : Int} (h : HpS B w p A c (L ++ [x])) :
    Calls Tryz.prog 308 #[.pointer (some ⟨p, 0, none⟩)] w fun e w' => e = .returned (.iface 3 (.int .i64 x)) ∧ HpS B w' p A c L ∧ Fr (At1 p) w w' := by
  have c1 := h.cell
  have z1 := h.blk.frozen 0
  have hle := h.le
  obtain ⟨g, rfl, hg1, hg2, c2, _⟩ := h.item L.length (by simp)
  have hx : at_ (L ++ [x]) L.length = x := by unfold at_; simp
  rw [hx] at c2
  have hl : (L ++ [x]).length = L.length + 1 := by simp
  have HL := Lib.hid hl
  rw [hl] at c1 hle
  have HH := Lib.hid h
  have hw : wrap64 (L.length : Int) = (L.length : Int) := by
    have := hle.1
    have h2 := hle.2
    simp only [maxLen] at h2
    unfold wrap64; omega
  have hle1 : (L.length : Int) ≤ (c : Int) := by omega
  have hle2 : L.length ≤ c := by omega
  have hl0 : (L.length : Int) < (L.length : Int) + 1 := by omega
  clear h hl hle hx
  go_enter Tryz.func308, Tryz.ntmps308
  go_wp2
  go_ret
  refine ⟨rfl, ⟨HH.out.lo, fun k hk => HH.out.up k (by rw [World.size_setCell] at hk; exact hk), ?_, ?_, ?_⟩, fr_set _ _ _ _⟩
  · exact HH.out.blk.set_ 0 (.slice (some ⟨g, 0, none⟩) L.length c)
  · have := own_cutL HH.out.row (k := L.length) (by simp)
    rw [is_cut] at this
    exact this.setCell (p := ⟨p, 0, none⟩) (by intro e; injection e with e; exact hg2 e) _
  · exact fun k hk => HH.out.new k hk
end Go.Proofs.YtcpgamidimfflaaGreat
namespace Go.Proofs.YtcpgamidimfflaaGreat
open Go.RowKit Go.My Go.My.Hp Go.Maps
set_option linter.unusedSimpArgs false
set_option linter.unusedVariables false
attribute [local go_sem ↓] Go.wp_at_zero Go.wp_at_succ
def UpR (B : Nat → Prop) (w : World) (p : Nat) (A : Option Addr) (c n : Nat) (L : List Int) (iv : Value) (wr : World) : Prop :=
  ∃ (j : Nat) (M : List Int), iv = .int .i64 (j : Int) ∧ M.length = n ∧ HpS B wr p A c M ∧ Up (at_ M) n j ∧ j < n ∧ M.Perm L ∧ Fr (AtO (Value.slice A n c).ownBlock) w wr
theorem swl_up {M : List Int} {n j : Nat} (hl : M.length = n) (h : Up (at_ M) n j) (hj : 0 < j) (hjn : j < n) (hlt : at_ M j < at_ M ((j - 1) / 2)) : Up (at_ (swl M ((j - 1) / 2) j)) n ((j - 1) / 2) := by
  have e : at_ (swl M ((j - 1) / 2) j) = sw (at_ M) ((j - 1) / 2) j := funext fun k => at_swl (by omega) (by omega) k
  rw [e]
  exact h.step hj hjn hlt
set_option maxRecDepth 100000 in
set_option maxHeartbeats 2000000 in
theorem hup_any {B : Nat → Prop} {w : World} {p : Nat} {A : Option Addr} {c : Nat} {L : List Int} (h : HpS B w p A c L) (j : Nat) (hj : j < L.length) (hu : Up (at_ L) L.length j) (hn : L.length ≤ 1000000) :
    Calls Tryz.prog 207 #[.iface 222 (.pointer (some ⟨p, 0, none⟩)), .int .i64 (j : Int)] w fun e w' => e = .returned (.tuple #[]) ∧ ∃ M : List Int, M.Perm L ∧ M.length = L.length ∧ Hp (at_ M) L.length ∧ HpS B w' p A c M ∧ Fr (AtO (Value.slice A L.length c).ownBlock) w w' := by
  obtain ⟨n, hnl⟩ : ∃ n, n = L.length := ⟨_, rfl⟩
  rw [← hnl]
  rw [← hnl] at hu hn hj
  have HH := Lib.hid h
  have HU := Lib.hid hu
  have HNL := Lib.hid hnl
  have HJ := Lib.hid hj
  clear h hu hnl hj
  go_enter Tryz.func207, Tryz.ntmps207
  go_wp2
  go_loopw [1] (fun iv wr => UpR B w p A c n L iv wr) (fun iv _ => (intOf iv).toNat)
  case atStart => exact ⟨j, L, rfl, HNL.out.symm, HH.out, HU.out, HJ.out, List.Perm.refl _, Fr.refl _ _⟩
  case round =>
    obtain ⟨j2, M, rfl, hl, hp, hup, hjn, hperm, hf⟩ := hrel
    have HP := Lib.hid hp
    have HUP := Lib.hid hup
    have HPM := Lib.hid hperm
    have HF := Lib.hid hf
    have HL := Lib.hid hl
    have c1 := hp.cell
    rw [hl] at c1
    have q1 := m_less c1
    have q2 := n_less (W := wr) (p := p)
    clear hp hup hperm hf hl
    by_cases h0 : j2 = 0
    · subst h0
      go_wp2
      refine bodyPost_end (v := .tuple #[]) ?_ rfl ?_
      · simp [results, Tryz.results207, go_sem]
      exact ⟨rfl, M, HPM.out, HL.out, HUP.out.done (fun h => absurd h (Nat.lt_irrefl 0)), HP.out, HF.out⟩
    · obtain ⟨k, rfl⟩ : ∃ k, j2 = k + 1 := ⟨j2 - 1, by omega⟩
      have hi : k / 2 < n := by omega
      obtain ⟨i, hik⟩ : ∃ i, i = k / 2 := ⟨_, rfl⟩
      have hi' : i < n := by omega
      have g1 : wrap64 (k : Int) = (k : Int) := by unfold wrap64; omega
      have g2 : (k : Int).tdiv 2 = (i : Int) := by rw [hik]; rfl
      have g3 : wrap64 (i : Int) = (i : Int) := by unfold wrap64; omega
      have g4 : ((i : Int) == (k : Int) + 1) = false := by rw [beq_eq_false_iff_ne]; omega
      obtain ⟨b, hb⟩ : ∃ b, b = decide (at_ M (k + 1) < at_ M i) := ⟨_, rfl⟩
      have HLE : Hid (Calls Tryz.prog 307 #[.slice A n c, .int .i64 ((k : Int) + 1), .int .i64 (i : Int)] wr fun e w' => e = .returned (.bool b) ∧ Fr No wr w') := Lib.hid (by
        have := hless_any HP.out (k + 1) i (by rw [HL.out]; omega) (by rw [HL.out]; omega)
        rw [HL.out, ← hb] at this
        exact this)
      have HSW : Hid (∀ W, Fr No wr W → Calls Tryz.prog 310 #[.slice A n c, .int .i64 (i : Int), .int .i64 ((k : Int) + 1)] W fun e w' => e = .returned (.tuple #[]) ∧ HpS B w' p A c (swl M i (k + 1)) ∧ Fr (AtO (Value.slice A n c).ownBlock) W w') := Lib.hid (fun W hW => by
        have := hswap_any (HP.out.no hW) i (k + 1) (by rw [HL.out]; omega) (by rw [HL.out]; omega)
        rw [HL.out] at this
        exact this)
      have HIK := Lib.hid hik
      have HB := Lib.hid hb
      clear hik hb
      cases b
      · go_wp2_with (go_at_call 307; refine HLE.out.mono ?_; rintro _ w2 ⟨rfl, hf2⟩; have HF2 := Lib.hid hf2; clear hf2)
        refine bodyPost_end (v := .tuple #[]) ?_ rfl ?_
        · simp [results, Tryz.results207, go_sem]
        refine ⟨rfl, M, HPM.out, HL.out, HUP.out.done (fun _ => ?_), HP.out.no HF2.out, HF.out.trans' HF2.out (fun _ h => nomatch h)⟩
        have h1 := HB.out
        rw [HIK.out] at h1
        have h2 := of_decide_eq_false h1.symm
        show at_ M ((k + 1 - 1) / 2) ≤ at_ M (k + 1)
        rw [Nat.add_sub_cancel]
        omega
      · go_wp2_with (first
          | (go_at_call 307; refine HLE.out.mono ?_; rintro _ w2 ⟨rfl, hf2⟩; have HF2 := Lib.hid hf2; have q3 := m_swap ((HP.out.no hf2).cell.trans (by rw [HL.out])); have q4 := n_swap (W := w2) (p := p); clear hf2)
          | (go_at_call 310; refine (HSW.out _ HF2.out).mono ?_; rintro _ w3 ⟨rfl, hp3, hf3⟩; have HP3 := Lib.hid hp3; have HF3 := Lib.hid hf3; clear hp3 hf3))
        have hl2 : (swl M i (k + 1)).length = n := by rw [swl_length]; exact HL.out
        go_roundw
        case measure => simp [intOf]; have := HIK.out; omega
        case rel =>
          refine ⟨i, swl M i (k + 1), by go_num, hl2, HP3.out, ?_, hi', (swl_perm (by have := HL.out; omega) (by have := HL.out; omega)).trans HPM.out, ?_⟩
          · have h1 := swl_up HL.out HUP.out (Nat.succ_pos k) hjn
            rw [Nat.add_sub_cancel, ← HIK.out] at h1
            exact h1 (of_decide_eq_true HB.out.symm)
          · exact (HF.out.trans' HF2.out (fun _ h => nomatch h)).trans HF3.out
end Go.Proofs.YtcpgamidimfflaaGreat
namespace Go.Proofs.YtcpgamidimfflaaGreat
open Go.RowKit Go.My Go.My.Hp Go.Maps
set_option linter.unusedSimpArgs false
set_option linter.unusedVariables false
attribute [local go_sem ↓] Go.wp_at_zero Go.wp_at_succ
def DnR (B : Nat → Prop) (w : World) (p : Nat) (A : Option Addr) (c n m : Nat) (L : List Int) (iv : Value) (wr : World) : Prop :=
  ∃ (i : Nat) (M : List Int), iv = .int .i64 (i : Int) ∧ M.length = n ∧ HpS B wr p A c M ∧ Dn (at_ M) m i ∧ i ≤ m ∧ M.Perm L ∧ (∀ k, m ≤ k → at_ M k = at_ L k) ∧ Fr (AtO (Value.slice A n c).ownBlock) w wr
theorem swl_dn {M : List Int} {n m i j : Nat} (hl : M.length = n) (hmn : m ≤ n) (h : Dn (at_ M) m i) (hj : j < m) (hp : (j - 1) / 2 = i) (hj0 : 0 < j) (hs : ∀ k, 0 < k → k < m → (k - 1) / 2 = i → at_ M j ≤ at_ M k) (hlt : at_ M j < at_ M i) :
    Dn (at_ (swl M i j)) m j ∧ ∀ k, m ≤ k → at_ (swl M i j) k = at_ M k := by
  have e : at_ (swl M i j) = sw (at_ M) i j := funext fun k => at_swl (by omega) (by omega) k
  rw [e]
  exact ⟨h.step hj hp hj0 hs hlt, fun k hk => sw_ne _ (by omega) (by omega)⟩
set_option maxRecDepth 100000 in
set_option maxHeartbeats 4000000 in
theorem hdown_any {B : Nat → Prop} {w : World} {p : Nat} {A : Option Addr} {c : Nat} {L : List Int} (h : HpS B w p A c L) (m : Nat) (hm : m ≤ L.length) (hd : Dn (at_ L) m 0) (hn : L.length ≤ 1000000) :
    Calls Tryz.prog 232 #[.iface 222 (.pointer (some ⟨p, 0, none⟩)), .int .i64 0, .int .i64 (m : Int)] w fun e w' => (∃ b, e = .returned (.bool b)) ∧ ∃ M : List Int, M.Perm L ∧ M.length = L.length ∧ Hp (at_ M) m ∧ (∀ k, m ≤ k → at_ M k = at_ L k) ∧ HpS B w' p A c M ∧ Fr (AtO (Value.slice A L.length c).ownBlock) w w' := by
  obtain ⟨n, hnl⟩ : ∃ n, n = L.length := ⟨_, rfl⟩
  rw [← hnl]
  rw [← hnl] at hn hm
  have HH := Lib.hid h
  have HD := Lib.hid hd
  have HNL := Lib.hid hnl
  have HM := Lib.hid hm
  clear h hd hnl hm
  go_enter Tryz.func232, Tryz.ntmps232
  go_wp2
  go_loopw [7] (fun iv wr => DnR B w p A c n m L iv wr) (fun iv _ => m - (intOf iv).toNat)
  case atStart => exact ⟨0, L, rfl, HNL.out.symm, HH.out, HD.out, Nat.zero_le _, List.Perm.refl _, fun _ _ => rfl, Fr.refl _ _⟩
  case round =>
    obtain ⟨i, M, rfl, hl, hp, hdn, him, hperm, hfar, hf⟩ := hrel
    have HP := Lib.hid hp
    have HDN := Lib.hid hdn
    have HPM := Lib.hid hperm
    have HFA := Lib.hid hfar
    have HF := Lib.hid hf
    have HL := Lib.hid hl
    have hmn := HM.out
    have c1 := hp.cell
    rw [hl] at c1
    have q1 := m_less c1
    have q2 := n_less (W := wr) (p := p)
    clear hp hdn hperm hf hl hfar
    obtain ⟨j1, hj1⟩ : ∃ j1, j1 = 2 * i + 1 := ⟨_, rfl⟩
    have g1 : wrap64 (2 * (i : Int)) = 2 * (i : Int) := by unfold wrap64; omega
    have g2 : wrap64 (2 * (i : Int) + 1) = (j1 : Int) := by unfold wrap64; omega
    have g3 : wrap64 ((j1 : Int) + 1) = (j1 : Int) + 1 := by unfold wrap64; omega
    have HJ1 := Lib.hid hj1
    have HIM := Lib.hid him
    have HMN := Lib.hid hmn
    have HLS : Hid (∀ W a b, Fr No wr W → a < n → b < n → Calls Tryz.prog 307 #[.slice A n c, .int .i64 (a : Int), .int .i64 (b : Int)] W fun e w' => e = .returned (.bool (decide (at_ M a < at_ M b))) ∧ Fr No wr w') := Lib.hid (fun W a b hW ha hb => by
      have := hless_any (HP.out.no hW) a b (by rw [HL.out]; exact ha) (by rw [HL.out]; exact hb)
      rw [HL.out] at this
      exact this.mono fun _ _ h => ⟨h.1, hW.trans h.2⟩)
    have HSW : Hid (∀ W a b, Fr No wr W → a < n → b < n → Calls Tryz.prog 310 #[.slice A n c, .int .i64 (a : Int), .int .i64 (b : Int)] W fun e w' => e = .returned (.tuple #[]) ∧ HpS B w' p A c (swl M a b) ∧ Fr (AtO (Value.slice A n c).ownBlock) W w') := Lib.hid (fun W a b hW ha hb => by
      have := hswap_any (HP.out.no hW) a b (by rw [HL.out]; exact ha) (by rw [HL.out]; exact hb)
      rw [HL.out] at this
      exact this)
    have HCL : Hid (∀ W, Fr No wr W → W.cell? ⟨p, 0, none⟩ = some (.slice A n c)) := Lib.hid (fun W hW => (HP.out.no hW).cell.trans (by rw [HL.out]))
    by_cases hge : m ≤ j1
    · have hgeI : (m : Int) ≤ (j1 : Int) := by omega
      have HGE := Lib.hid hge
      clear hj1 him hmn hge
      go_wp2
      refine bodyPost_ret (results_tmp rfl _ _ _) rfl ?_
      refine ⟨⟨_, rfl⟩, M, HPM.out, HL.out, HDN.out.done (fun k h0 h1 h2 => ?_), HFA.out, HP.out, HF.out⟩
      have := HJ1.out
      have := HGE.out
      omega
    · have hj1m : j1 < m := by omega
      have hgeI : (j1 : Int) < (m : Int) := by omega
      have hj0I : (0 : Int) ≤ (j1 : Int) := by omega
      have HJM := Lib.hid hj1m
      clear hge
      by_cases h2 : j1 + 1 < m
      · have h2I : (j1 : Int) + 1 < (m : Int) := by omega
        have HJ2 := Lib.hid h2
        obtain ⟨b1, hb1⟩ : ∃ b1, b1 = decide (at_ M (j1 + 1) < at_ M j1) := ⟨_, rfl⟩
        have HB1 := Lib.hid hb1
        have HL1 : Hid (∀ W, Fr No wr W → Calls Tryz.prog 307 #[.slice A n c, .int .i64 ((j1 : Int) + 1), .int .i64 (j1 : Int)] W fun e w' => e = .returned (.bool b1) ∧ Fr No wr w') := Lib.hid (fun W hW => by have := HLS.out W (j1 + 1) j1 hW (by omega) (by omega); rw [← hb1] at this; exact this)
        clear hb1
        cases b1
        · clear h2
          obtain ⟨b2, hb2⟩ : ∃ b2, b2 = decide (at_ M (j1) < at_ M i) := ⟨_, rfl⟩
          have HB2 := Lib.hid hb2
          have HMIN : Hid (∀ k, 0 < k → k < m → (k - 1) / 2 = i → at_ M (j1) ≤ at_ M k) := Lib.hid (by
            intro k h0 h1 h2
            have e := of_decide_eq_false HB1.out.symm
            have hj1 := HJ1.out
            rcases (show k = j1 ∨ k = j1 + 1 by omega) with rfl | rfl
            · exact Int.le_refl _
            · omega)
          have HL2 : Hid (∀ W, Fr No wr W → Calls Tryz.prog 307 #[.slice A n c, .int .i64 ((j1 : Int)), .int .i64 (i : Int)] W fun e w' => e = .returned (.bool b2) ∧ Fr No wr w') := Lib.hid (fun W hW => by have := HLS.out W (j1) i hW (by have := HJM.out; have := HJ1.out; have := HMN.out; omega) (by have := HJM.out; have := HJ1.out; have := HMN.out; omega); rw [← HB2.out] at this; exact this)
          have HS2 : Hid (∀ W, Fr No wr W → Calls Tryz.prog 310 #[.slice A n c, .int .i64 (i : Int), .int .i64 ((j1 : Int))] W fun e w' => e = .returned (.tuple #[]) ∧ HpS B w' p A c (swl M i (j1)) ∧ Fr (AtO (Value.slice A n c).ownBlock) W w') := Lib.hid (fun W hW => HSW.out W i (j1) hW (by have := HJM.out; have := HJ1.out; have := HMN.out; omega) (by have := HJM.out; have := HJ1.out; have := HMN.out; omega))
          clear hb2 him hmn hj1m hj1
          cases b2
          · go_wp2_with (first
              | (go_at_call 307; with_reducible refine (HL1.out _ (Fr.refl No wr)).mono ?_; rintro _ w2 ⟨rfl, hf2⟩; have HF2 := Lib.hid hf2; have q3 := m_less (HCL.out _ hf2); have q4 := n_less (W := w2) (p := p); clear hf2)
              | (go_at_call 307; with_reducible refine (HL2.out _ HF2.out).mono ?_; rintro _ w3 ⟨rfl, hf3⟩; have HF3 := Lib.hid hf3; have q5 := m_swap (HCL.out _ hf3); have q6 := n_swap (W := w3) (p := p); clear hf3))
            refine bodyPost_ret (results_tmp rfl _ _ _) rfl ?_
            refine ⟨⟨_, rfl⟩, M, HPM.out, HL.out, HDN.out.done (fun k h0 h1 h2 => Int.le_trans (Int.not_lt.1 (of_decide_eq_false HB2.out.symm)) (HMIN.out k h0 h1 h2)), HFA.out, HP.out.no HF3.out, HF.out.trans' HF3.out (fun _ h => nomatch h)⟩
          · go_wp2_with (first
              | (go_at_call 307; with_reducible refine (HL1.out _ (Fr.refl No wr)).mono ?_; rintro _ w2 ⟨rfl, hf2⟩; have HF2 := Lib.hid hf2; have q3 := m_less (HCL.out _ hf2); have q4 := n_less (W := w2) (p := p); clear hf2)
              | (go_at_call 307; with_reducible refine (HL2.out _ HF2.out).mono ?_; rintro _ w3 ⟨rfl, hf3⟩; have HF3 := Lib.hid hf3; have q5 := m_swap (HCL.out _ hf3); have q6 := n_swap (W := w3) (p := p); clear hf3)
              | (go_at_call 310; with_reducible refine (HS2.out _ HF3.out).mono ?_; rintro _ w4 ⟨rfl, hp4, hf4⟩; have HP4 := Lib.hid hp4; have HF4 := Lib.hid hf4; clear hp4 hf4))
            have hj1 := HJ1.out
            have hmn := HMN.out
            have hjm := HJM.out
            obtain ⟨s1, s2⟩ := swl_dn HL.out HMN.out HDN.out (j := j1) (by omega) (by omega) (by omega) HMIN.out (of_decide_eq_true HB2.out.symm)
            go_roundw
            case measure => simp [intOf]; omega
            case rel => exact ⟨j1, swl M i (j1), by go_num, by rw [swl_length]; exact HL.out, HP4.out, s1, by omega, (swl_perm (by have := HL.out; omega) (by have := HL.out; omega)).trans HPM.out, fun k hk => (s2 k hk).trans (HFA.out k hk), (HF.out.trans' HF3.out (fun _ h => nomatch h)).trans HF4.out⟩
        · have HJM := HJ2
          clear h2
          obtain ⟨b2, hb2⟩ : ∃ b2, b2 = decide (at_ M (j1 + 1) < at_ M i) := ⟨_, rfl⟩
          have HB2 := Lib.hid hb2
          have HMIN : Hid (∀ k, 0 < k → k < m → (k - 1) / 2 = i → at_ M (j1 + 1) ≤ at_ M k) := Lib.hid (by
            intro k h0 h1 h2
            have e := of_decide_eq_true HB1.out.symm
            have hj1 := HJ1.out
            rcases (show k = j1 ∨ k = j1 + 1 by omega) with rfl | rfl
            · omega
            · exact Int.le_refl _)
          have HL2 : Hid (∀ W, Fr No wr W → Calls Tryz.prog 307 #[.slice A n c, .int .i64 ((j1 : Int) + 1), .int .i64 (i : Int)] W fun e w' => e = .returned (.bool b2) ∧ Fr No wr w') := Lib.hid (fun W hW => by have := HLS.out W (j1 + 1) i hW (by have := HJM.out; have := HJ1.out; have := HMN.out; omega) (by have := HJM.out; have := HJ1.out; have := HMN.out; omega); rw [← HB2.out] at this; exact this)
          have HS2 : Hid (∀ W, Fr No wr W → Calls Tryz.prog 310 #[.slice A n c, .int .i64 (i : Int), .int .i64 ((j1 : Int) + 1)] W fun e w' => e = .returned (.tuple #[]) ∧ HpS B w' p A c (swl M i (j1 + 1)) ∧ Fr (AtO (Value.slice A n c).ownBlock) W w') := Lib.hid (fun W hW => HSW.out W i (j1 + 1) hW (by have := HJM.out; have := HJ1.out; have := HMN.out; omega) (by have := HJM.out; have := HJ1.out; have := HMN.out; omega))
          clear hb2 him hmn hj1m hj1
          cases b2
          · go_wp2_with (first
              | (go_at_call 307; with_reducible refine (HL1.out _ (Fr.refl No wr)).mono ?_; rintro _ w2 ⟨rfl, hf2⟩; have HF2 := Lib.hid hf2; have q3 := m_less (HCL.out _ hf2); have q4 := n_less (W := w2) (p := p); clear hf2)
              | (go_at_call 307; with_reducible refine (HL2.out _ HF2.out).mono ?_; rintro _ w3 ⟨rfl, hf3⟩; have HF3 := Lib.hid hf3; have q5 := m_swap (HCL.out _ hf3); have q6 := n_swap (W := w3) (p := p); clear hf3))
            refine bodyPost_ret (results_tmp rfl _ _ _) rfl ?_
            refine ⟨⟨_, rfl⟩, M, HPM.out, HL.out, HDN.out.done (fun k h0 h1 h2 => Int.le_trans (Int.not_lt.1 (of_decide_eq_false HB2.out.symm)) (HMIN.out k h0 h1 h2)), HFA.out, HP.out.no HF3.out, HF.out.trans' HF3.out (fun _ h => nomatch h)⟩
          · go_wp2_with (first
              | (go_at_call 307; with_reducible refine (HL1.out _ (Fr.refl No wr)).mono ?_; rintro _ w2 ⟨rfl, hf2⟩; have HF2 := Lib.hid hf2; have q3 := m_less (HCL.out _ hf2); have q4 := n_less (W := w2) (p := p); clear hf2)
              | (go_at_call 307; with_reducible refine (HL2.out _ HF2.out).mono ?_; rintro _ w3 ⟨rfl, hf3⟩; have HF3 := Lib.hid hf3; have q5 := m_swap (HCL.out _ hf3); have q6 := n_swap (W := w3) (p := p); clear hf3)
              | (go_at_call 310; with_reducible refine (HS2.out _ HF3.out).mono ?_; rintro _ w4 ⟨rfl, hp4, hf4⟩; have HP4 := Lib.hid hp4; have HF4 := Lib.hid hf4; clear hp4 hf4))
            have hj1 := HJ1.out
            have hmn := HMN.out
            have hjm := HJM.out
            obtain ⟨s1, s2⟩ := swl_dn HL.out HMN.out HDN.out (j := j1 + 1) (by omega) (by omega) (by omega) HMIN.out (of_decide_eq_true HB2.out.symm)
            go_roundw
            case measure => simp [intOf]; omega
            case rel => exact ⟨j1 + 1, swl M i (j1 + 1), by go_num, by rw [swl_length]; exact HL.out, HP4.out, s1, by omega, (swl_perm (by have := HL.out; omega) (by have := HL.out; omega)).trans HPM.out, fun k hk => (s2 k hk).trans (HFA.out k hk), (HF.out.trans' HF3.out (fun _ h => nomatch h)).trans HF4.out⟩
      · have h2I : ¬ (j1 : Int) + 1 < (m : Int) := by omega
        have HJ2 := Lib.hid h2
        clear h2
        obtain ⟨b2, hb2⟩ : ∃ b2, b2 = decide (at_ M (j1) < at_ M i) := ⟨_, rfl⟩
        have HB2 := Lib.hid hb2
        have HMIN : Hid (∀ k, 0 < k → k < m → (k - 1) / 2 = i → at_ M (j1) ≤ at_ M k) := Lib.hid (by
          intro k h0 h1 h2
          have hj1 := HJ1.out
          have := HJ2.out
          obtain rfl : k = j1 := by omega
          exact Int.le_refl _)
        have HL2 : Hid (∀ W, Fr No wr W → Calls Tryz.prog 307 #[.slice A n c, .int .i64 ((j1 : Int)), .int .i64 (i : Int)] W fun e w' => e = .returned (.bool b2) ∧ Fr No wr w') := Lib.hid (fun W hW => by have := HLS.out W (j1) i hW (by have := HJM.out; have := HJ1.out; have := HMN.out; omega) (by have := HJM.out; have := HJ1.out; have := HMN.out; omega); rw [← HB2.out] at this; exact this)
        have HS2 : Hid (∀ W, Fr No wr W → Calls Tryz.prog 310 #[.slice A n c, .int .i64 (i : Int), .int .i64 ((j1 : Int))] W fun e w' => e = .returned (.tuple #[]) ∧ HpS B w' p A c (swl M i (j1)) ∧ Fr (AtO (Value.slice A n c).ownBlock) W w') := Lib.hid (fun W hW => HSW.out W i (j1) hW (by have := HJM.out; have := HJ1.out; have := HMN.out; omega) (by have := HJM.out; have := HJ1.out; have := HMN.out; omega))
        clear hb2 him hmn hj1m hj1
        cases b2
        · go_wp2_with (first
            | (go_at_call 307; with_reducible refine (HL2.out _ (Fr.refl No wr)).mono ?_; rintro _ w3 ⟨rfl, hf3⟩; have HF3 := Lib.hid hf3; have q5 := m_swap (HCL.out _ hf3); have q6 := n_swap (W := w3) (p := p); clear hf3))
          refine bodyPost_ret (results_tmp rfl _ _ _) rfl ?_
          refine ⟨⟨_, rfl⟩, M, HPM.out, HL.out, HDN.out.done (fun k h0 h1 h2 => Int.le_trans (Int.not_lt.1 (of_decide_eq_false HB2.out.symm)) (HMIN.out k h0 h1 h2)), HFA.out, HP.out.no HF3.out, HF.out.trans' HF3.out (fun _ h => nomatch h)⟩
        · go_wp2_with (first
            | (go_at_call 307; with_reducible refine (HL2.out _ (Fr.refl No wr)).mono ?_; rintro _ w3 ⟨rfl, hf3⟩; have HF3 := Lib.hid hf3; have q5 := m_swap (HCL.out _ hf3); have q6 := n_swap (W := w3) (p := p); clear hf3)
            | (go_at_call 310; with_reducible refine (HS2.out _ HF3.out).mono ?_; rintro _ w4 ⟨rfl, hp4, hf4⟩; have HP4 := Lib.hid hp4; have HF4 := Lib.hid hf4; clear hp4 hf4))
          have hj1 := HJ1.out
          have hmn := HMN.out
          have hjm := HJM.out
          obtain ⟨s1, s2⟩ := swl_dn HL.out HMN.out HDN.out (j := j1) (by omega) (by omega) (by omega) HMIN.out (of_decide_eq_true HB2.out.symm)
          go_roundw
          case measure => simp [intOf]; omega
          case rel => exact ⟨j1, swl M i (j1), by go_num, by rw [swl_length]; exact HL.out, HP4.out, s1, by omega, (swl_perm (by have := HL.out; omega) (by have := HL.out; omega)).trans HPM.out, fun k hk => (s2 k hk).trans (HFA.out k hk), (HF.out.trans' HF3.out (fun _ h => nomatch h)).trans HF4.out⟩
end Go.Proofs.YtcpgamidimfflaaGreat
