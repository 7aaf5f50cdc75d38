/- The heap of names: heap.Push and heap.Pop. The walk depth first, in memory. The walk depth first: what memory holds when a place is met. The walk depth first: what memory holds when a knot is tied. -/
import Derived.Test.YtcpgamidimfflaaGreatQ25
import Derived.Test.YtcpgamidimfflaaGreatQ04
import Derived.Test.YtcpgamidimfflaaGreatQ01
namespace Go.Proofs.YtcpgamidimfflaaGreat
open Go.RowKit Go.My Go.My.Hp Go.Maps
set_option linter.unusedSimpArgs false
set_option linter.unusedVariables false
attribute [local go_sem ↓] Go.wp_at_zero Go.wp_at_succ
def HpC (B : Nat → Prop) (w : World) (k : Nat) : Prop := B k ∧ ∀ cur, ¬ Blk w k 66 cur
theorem hpc_trans {B : Nat → Prop} {a b c : World} (h : Fr (HpC B a) a b) (k : Fr (HpC B b) b c) : Fr (HpC B a) a c :=
  h.trans' k fun i hi _ => ⟨hi.1, fun cur hb => hi.2 cur (hb.fr h fun hh => hh.2 cur hb)⟩
theorem HpS.hpc {B : Nat → Prop} {w w' : World} {p : Nat} {A : Option Addr} {c : Nat} {L : List Int} (h : HpS B w p A c L) (hf : Fr (Go.My.At2 p (Value.slice A L.length c).ownBlock) w w') : Fr (HpC B w) w w' :=
  hf.mono fun k _ hk => by
    rcases hk with rfl | hk
    · exact ⟨h.lo, fun cur hb => Blk.ne_ h.blk hb (by decide) rfl⟩
    · obtain ⟨c, hc⟩ := h.row.blk k hk
      exact ⟨h.new k hk, fun cur hb => Blk.ne_ hc hb (by decide) rfl⟩
theorem at_app_lt (L M : List Int) (k : Nat) (h : k < L.length) : at_ (L ++ M) k = at_ L k := by
  rw [at_lt h, at_lt (by rw [List.length_append]; omega), List.getElem_append_left h]
theorem hp_more {L : List Int} (x : Int) (h : Hp (at_ L) L.length) : Up (at_ (L ++ [x])) (L.length + 1) L.length := by
  refine Hp.up fun k h0 h1 => ?_
  rw [at_app_lt _ _ _ h1, at_app_lt _ _ _ (by omega)]
  exact h k h0 h1
theorem hp_less {L : List Int} (x : Int) (h : Hp (at_ (L ++ [x])) L.length) : Hp (at_ L) L.length := fun k h0 h1 => by
  have := h k h0 h1
  rwa [at_app_lt _ _ _ h1, at_app_lt _ _ _ (by omega)] at this
theorem last_app {M : List Int} {n : Nat} (h : M.length = n + 1) : M = M.take n ++ [at_ M n] := by
  apply List.ext_getElem?
  intro k
  by_cases hk : k < n
  · rw [List.getElem?_append_left (by rw [List.length_take]; omega), List.getElem?_take_of_lt hk]
  · rw [List.getElem?_append_right (by rw [List.length_take]; omega), List.length_take, Nat.min_eq_left (by omega)]
    by_cases e : k = n
    · subst e
      rw [Nat.sub_self, at_lt (by omega), List.getElem?_eq_getElem (by omega)]; rfl
    · rw [List.getElem?_eq_none (by omega), List.getElem?_eq_none (by simp; omega)]
theorem pop_lists {L M : List Int} {n : Nat} (hl : L.length = n + 1) (hh : Hp (at_ L) (n + 1)) (hp : M.Perm (swl L 0 n)) (hm : Hp (at_ M) n) (hf : ∀ k, n ≤ k → at_ M k = at_ (swl L 0 n) k) :
    ∃ x R, M = R ++ [x] ∧ R.length = n ∧ (x :: R).Perm L ∧ (∀ y ∈ L, x ≤ y) ∧ Hp (at_ R) R.length := by
  have hML : M.length = n + 1 := by rw [hp.length_eq, swl_length, hl]
  have e := last_app hML
  have hR : (M.take n).length = n := by rw [List.length_take]; omega
  have hx : at_ M n = at_ L 0 := by
    rw [hf n (Nat.le_refl _), at_swl (by omega) (by omega), sw_j]
  rw [hx] at e
  refine ⟨at_ L 0, M.take n, e, hR, ?_, fun y hy => ?_, ?_⟩
  · have h1 : M.Perm L := hp.trans (swl_perm (by omega) (by omega))
    rw [e] at h1
    exact (List.perm_append_singleton _ _).symm.trans h1
  · obtain ⟨k, hk, rfl⟩ := List.mem_iff_getElem.1 hy
    have := Hp.min hh k (by omega)
    rwa [at_lt hk] at this
  · refine hp_less (at_ L 0) ?_
    rw [← e, hR]
    exact hm
set_option maxRecDepth 100000 in
set_option maxHeartbeats 2000000 in
theorem hPush_any {B : Nat → Prop} {w : World} {p : Nat} {A : Option Addr} {c : Nat} {L : List Int} (h : HpS B w p A c L) (x : Int) (hh : Hp (at_ L) L.length) (hn : L.length ≤ 900000) :
    Calls Tryz.prog 161 #[.iface 222 (.pointer (some ⟨p, 0, none⟩)), .iface 3 (.int .i64 x)] w fun e w' => e = .returned (.tuple #[]) ∧ ∃ (A' : Option Addr) (c' : Nat) (M : List Int), M.Perm (x :: L) ∧ Hp (at_ M) M.length ∧ HpS B w' p A' c' M ∧ Fr (HpC B w) w w' := by
  have HPU := Lib.hid (hpushm_any h x (by omega))
  have HH := Lib.hid h
  have HHP := Lib.hid hh
  have q1 := m_push (W := w) (p := p)
  have q2 := n_push (W := w) (p := p)
  have hN := Lib.hid hn
  clear h hh hn
  go_enter Tryz.func161, Tryz.ntmps161
  have HX : Hid (∀ (w2 : World) (A2 : Option Addr) (c2 : Nat), HpS B w2 p A2 c2 (L ++ [x]) → w2.cell? ⟨p, 0, none⟩ = some (.slice A2 (L.length + 1) c2) ∧ Calls Tryz.prog 207 #[.iface 222 (.pointer (some ⟨p, 0, none⟩)), .int .i64 (L.length : Int)] w2 fun e w' => e = .returned (.tuple #[]) ∧ ∃ M : List Int, M.Perm (L ++ [x]) ∧ M.length = (L ++ [x]).length ∧ Hp (at_ M) (L ++ [x]).length ∧ HpS B w' p A2 c2 M ∧ Fr (AtO (Value.slice A2 (L ++ [x]).length c2).ownBlock) w2 w') := Lib.hid (fun w2 A2 c2 hp2 => by
    have hl : (L ++ [x]).length = L.length + 1 := by simp
    exact ⟨hp2.cell.trans (by rw [hl]), hup_any hp2 L.length (by omega) (by rw [hl]; exact hp_more x HHP.out) (by have := hN.out; omega)⟩)
  have hw : wrap64 (L.length : Int) = (L.length : Int) := by have := hN.out; unfold wrap64; omega
  go_wp2_with (first
    | (go_at_call 309; refine HPU.out.mono ?_; rintro _ w2 ⟨rfl, A2, c2, hp2, hf2⟩; have q3 := m_len (HX.out w2 A2 c2 hp2).1; have q4 := n_len (W := w2) (p := p); have HUP := Lib.hid (HX.out w2 A2 c2 hp2).2; have HF2 := Lib.hid hf2; have HP2 := Lib.hid hp2; clear hp2 hf2)
    | (go_at_call 208; (with_reducible refine (hlen_any _ _ _ _).mono ?_); rintro _ w3 ⟨rfl, hw3⟩; obtain rfl : w2 = w3 := hw3.symm)
    | (go_at_call 207; (with_reducible refine HUP.out.mono ?_); rintro _ w4 ⟨rfl, M, hM1, hM2, hM3, hM4, hM5⟩; have HM1 := Lib.hid hM1; have HM2 := Lib.hid hM2; have HM3 := Lib.hid hM3; have HM4 := Lib.hid hM4; have HM5 := Lib.hid hM5; clear hM1 hM2 hM3 hM4 hM5))
  refine bodyPost_end (v := .tuple #[]) ?_ rfl ?_
  · simp [results, Tryz.results161, go_sem]
  have hm2 : M.length = (L ++ [x]).length := HM2.out
  refine ⟨rfl, A2, c2, M, HM1.out.trans (List.perm_append_singleton x L), by rw [hm2]; exact HM3.out, HM4.out, hpc_trans (HH.out.hpc HF2.out) (HP2.out.hpc (HM5.out.mono fun _ _ h => .inr h))⟩
theorem hta_any (x : Int) (W : World) : (Instr.typeAssert (.iface 3 (.int .i64 x)) 20 3 false).run Tryz.prog W = .ok (.int .i64 x) W := by kernel_rfl
set_option maxRecDepth 100000 in
set_option maxHeartbeats 2000000 in
theorem hPop_any {B : Nat → Prop} {w : World} {p : Nat} {A : Option Addr} {c n : Nat} {L : List Int} (h : HpS B w p A c L) (hh : Hp (at_ L) L.length) (hl : L.length = n + 1) (hn : L.length ≤ 900000) :
    Calls Tryz.prog 209 #[.iface 222 (.pointer (some ⟨p, 0, none⟩))] w fun e w' => ∃ (x : Int) (R : List Int), e = .returned (.iface 3 (.int .i64 x)) ∧ R.length = n ∧ (x :: R).Perm L ∧ (∀ y ∈ L, x ≤ y) ∧ Hp (at_ R) R.length ∧ HpS B w' p A c R ∧ Fr (HpC B w) w w' := by
  have c1 := h.cell
  rw [hl] at c1
  have q1 := m_len c1
  have q2 := n_len (W := w) (p := p)
  have q3 := m_swap c1
  have q4 := n_swap (W := w) (p := p)
  have hw : wrap64 (n : Int) = (n : Int) := by unfold wrap64; omega
  have HSW : Hid (Calls Tryz.prog 310 #[.slice A (n + 1) c, .int .i64 0, .int .i64 (n : Int)] w fun e w' => e = .returned (.tuple #[]) ∧ HpS B w' p A c (swl L 0 n) ∧ Fr (AtO (Value.slice A L.length c).ownBlock) w w') := Lib.hid (by
    have := hswap_any h 0 n (by omega) (by omega)
    rw [show Value.slice A L.length c = Value.slice A (n + 1) c by rw [hl]] at this ⊢
    exact this)
  have HX : Hid (∀ w2 : World, HpS B w2 p A c (swl L 0 n) → Calls Tryz.prog 232 #[.iface 222 (.pointer (some ⟨p, 0, none⟩)), .int .i64 0, .int .i64 (n : Int)] w2 fun e w' => (∃ b, e = .returned (.bool b)) ∧ ∃ (x : Int) (R : List Int), R.length = n ∧ (x :: R).Perm L ∧ (∀ y ∈ L, x ≤ y) ∧ Hp (at_ R) R.length ∧ HpS B w' p A c (R ++ [x]) ∧ Fr (AtO (Value.slice A L.length c).ownBlock) w2 w') := Lib.hid (fun w2 hp2 => by
    have e : at_ (swl L 0 n) = sw (at_ L) 0 n := funext fun k => at_swl (by omega) (by omega) k
    have hd : Dn (at_ (swl L 0 n)) n 0 := by rw [e]; exact Hp.down (by rw [hl] at hh; exact hh)
    refine (hdown_any hp2 n (by rw [swl_length]; omega) hd (by rw [swl_length]; omega)).mono ?_
    rintro e w' ⟨h1, M, m1, m2, m3, m4, m5, m6⟩
    obtain ⟨x, R, rfl, r1, r2, r3, r4⟩ := pop_lists hl (by rw [hl] at hh; exact hh) m1 m3 m4
    rw [swl_length] at m6
    exact ⟨h1, x, R, r1, r2, r3, r4, m5, m6⟩)
  have HH := Lib.hid h
  have HL := Lib.hid hl
  clear h hh hl hn
  go_enter Tryz.func209, Tryz.ntmps209
  go_wp2_with (first
    | (go_at_call 208; (with_reducible refine (hlen_any _ _ _ _).mono ?_); rintro _ w3 ⟨rfl, hw3⟩; obtain rfl : w = w3 := hw3.symm)
    | (go_at_call 310; (with_reducible refine HSW.out.mono ?_); rintro _ w2 ⟨rfl, hp2, hf2⟩; have HP2 := Lib.hid hp2; have HF2 := Lib.hid hf2; clear hp2 hf2)
    | (go_at_call 232; (with_reducible refine (HX.out _ HP2.out).mono ?_); rintro _ w4 ⟨⟨bb, rfl⟩, x, R, r1, r2, r3, r4, r5, r6⟩; have q5 := m_pop (W := w4) (p := p); have q6 := n_pop (W := w4) (p := p); have HR1 := Lib.hid r1; have HR2 := Lib.hid r2; have HR3 := Lib.hid r3; have HR4 := Lib.hid r4; have HR5 := Lib.hid r5; have HR6 := Lib.hid r6; clear r1 r2 r3 r4 r5 r6)
    | (go_at_call 308; (with_reducible refine (hpopm_any HR5.out).mono ?_); rintro _ w5 ⟨rfl, hp5, hf5⟩; have HP5 := Lib.hid hp5; have HF5 := Lib.hid hf5; clear hp5 hf5))
  go_ret
  exact ⟨x, R, rfl, HR1.out, HR2.out, HR3.out, HR4.out, HP5.out, HH.out.hpc (((HF2.out.trans HR6.out).mono fun _ _ h => .inr h).trans (HF5.out.mono fun _ _ h => .inl h))⟩
end Go.Proofs.YtcpgamidimfflaaGreat
namespace Go.Proofs.YtcpgamidimfflaaGreat
open Go.RowKit Go.My Go.Maps
set_option linter.unusedSimpArgs false
set_option linter.unusedVariables false
def ns (f : Nat → Nat) (n : Nat) : List Value := (List.range n).map fun k => Value.int .i64 (f k : Int)
def bl (p : Nat → Bool) (n : Nat) : List Value := (List.range n).map fun k => Value.bool (p k)
def nl (l : List Nat) : List Value := l.map fun (x : Nat) => Value.int .i64 (x : Int)
theorem ns_len (f : Nat → Nat) (n : Nat) : (ns f n).length = n := by simp [ns]
theorem bl_len (p : Nat → Bool) (n : Nat) : (bl p n).length = n := by simp [bl]
theorem ns_at (f : Nat → Nat) (n k : Nat) (h : k < n) : (ns f n)[k]? = some (.int .i64 (f k)) := by simp [ns, h]
theorem bl_at (p : Nat → Bool) (n k : Nat) (h : k < n) : (bl p n)[k]? = some (.bool (p k)) := by simp [bl, h]
theorem nl_at (l : List Nat) (k : Nat) (h : k < l.length) : (nl l)[k]? = some (.int .i64 (l[k] : Int)) := by simp [nl, h]
theorem nl_append (l m : List Nat) : nl (l ++ m) = nl l ++ nl m := by simp [nl]
theorem nl_is (l : List Nat) : nl l = is_ (l.map fun (x : Nat) => (x : Int)) := by simp [nl, is_]
theorem ns_set (f : Nat → Nat) (n k v : Nat) (h : k < n) : (ns f n).set k (.int .i64 (v : Int)) = ns (upN f k v) n := by
  apply List.ext_getElem?
  intro i
  by_cases hi : i < n
  · by_cases e : i = k
    · subst e
      rw [List.getElem?_set_self (by rw [ns_len]; exact hi), ns_at _ _ _ hi, upN_at]
    · rw [List.getElem?_set_ne (fun e2 => e e2.symm), ns_at _ _ _ hi, ns_at _ _ _ hi, upN_ne _ _ e]
  · rw [List.getElem?_eq_none (by rw [List.length_set, ns_len]; omega), List.getElem?_eq_none (by rw [ns_len]; omega)]
theorem bl_set (p : Nat → Bool) (n k : Nat) (b : Bool) (h : k < n) : (bl p n).set k (.bool b) = bl (upN p k b) n := by
  apply List.ext_getElem?
  intro i
  by_cases hi : i < n
  · by_cases e : i = k
    · subst e
      rw [List.getElem?_set_self (by rw [bl_len]; exact hi), bl_at _ _ _ hi, upN_at]
    · rw [List.getElem?_set_ne (fun e2 => e e2.symm), bl_at _ _ _ hi, bl_at _ _ _ hi, upN_ne _ _ e]
  · rw [List.getElem?_eq_none (by rw [List.length_set, bl_len]; omega), List.getElem?_eq_none (by rw [bl_len]; omega)]
theorem bl_congr {p r : Nat → Bool} {n : Nat} (h : ∀ k, k < n → p k = r k) : bl p n = bl r n := by
  unfold bl
  exact List.map_congr_left fun k hk => by rw [h k (List.mem_range.1 hk)]
theorem ns_zero (n : Nat) : ns (fun _ => 0) n = zrow n (.int .i64 0) := by
  apply List.ext_getElem?
  intro k
  unfold ns zrow
  by_cases h : k < n
  · simp [h]
  · simp [h]
theorem bl_zero (n : Nat) : bl (fun _ => false) n = zrow n (.bool false) := by
  apply List.ext_getElem?
  intro k
  unfold bl zrow
  by_cases h : k < n
  · simp [h]
  · simp [h]
structure Wp where
  ga : Option Addr
  gc : Nat
  ps : Nat
  pl : Nat
  pb : Nat
  la : Option Addr
  lc : Nat
  fa : Option Addr
  fc : Nat
structure FdS (B : Nat) (w : World) (p : Wp) (s : Ts) (vs : List Value) (KB : Nat → Prop) : Prop where
  out : Own w 66 1 (.slice p.fa s.found.length p.fc) s.found.length vs
  new : ∀ k, KB k → B ≤ k ∧ k < w.heap.size ∧ k ≠ p.ps ∧ k ≠ p.pl ∧ (Value.slice p.la s.loose.length p.lc).ownBlock ≠ some k ∧ ∃ cur, Blk w k 3 cur
  row : ∀ (i : Nat) (K : List Nat), s.found[i]? = some K → ∃ A c, vs[i]? = some (.slice A K.length c) ∧ Rd w KB 1 A K.length (nl K) ∧ K.length ≤ c ∧ c ≤ maxLen
structure WkS (B : Nat) (w : World) (q : Nat) (p : Wp) (n : Nat) (G : List (List Int)) (s : Ts) : Prop where
  blk : Blk w q 265 #[.slice p.ga n p.gc, .slice (some ⟨p.ps, 0, none⟩) n n, .slice (some ⟨p.pl, 0, none⟩) n n, .int .i64 (s.met : Int), .slice p.la s.loose.length p.lc, .slice (some ⟨p.pb, 0, none⟩) n n, .slice p.fa s.found.length p.fc]
  g : RdG w (fun k => k < B) p.ga G
  gl : G.length = n
  seen : Own w 3 1 (.slice (some ⟨p.ps, 0, none⟩) n n) n (ns s.seen n)
  low : Own w 3 1 (.slice (some ⟨p.pl, 0, none⟩) n n) n (ns s.low n)
  mark : Own w 4 1 (.slice (some ⟨p.pb, 0, none⟩) n n) n (bl (fun k => s.loose.contains k) n)
  loose : Own w 3 1 (.slice p.la s.loose.length p.lc) s.loose.length (nl s.loose)
  found : ∃ vs KB, FdS B w p s vs KB
  new : B ≤ q ∧ B ≤ p.ps ∧ B ≤ p.pl ∧ B ≤ p.pb ∧ (∀ k, (Value.slice p.la s.loose.length p.lc).ownBlock = some k → B ≤ k) ∧ (∀ k, (Value.slice p.fa s.found.length p.fc).ownBlock = some k → B ≤ k)
  ap : p.ps ≠ p.pl ∧ (Value.slice p.la s.loose.length p.lc).ownBlock ≠ some p.ps ∧ (Value.slice p.la s.loose.length p.lc).ownBlock ≠ some p.pl
def WkC (B : Nat) (w : World) (k : Nat) : Prop := B ≤ k ∧ ∀ cur, ¬ Blk w k 292 cur
section
variable {B : Nat} {w w' : World} {q : Nat} {p : Wp} {n : Nat} {G : List (List Int)} {s : Ts}
theorem blk_ps (h : WkS B w q p n G s) : ∃ cur, Blk w p.ps 3 cur := h.seen.blk p.ps rfl
theorem blk_pl (h : WkS B w q p n G s) : ∃ cur, Blk w p.pl 3 cur := h.low.blk p.pl rfl
theorem blk_pb (h : WkS B w q p n G s) : ∃ cur, Blk w p.pb 4 cur := h.mark.blk p.pb rfl
theorem wkc_of {k : Nat} {t : TypeId} {cur : Array Value} (hB : B ≤ k) (hb : Blk w k t cur) (ht : t ≠ 292) : WkC B w k := ⟨hB, fun c hc => Blk.ne_ hb hc ht rfl⟩
end
end Go.Proofs.YtcpgamidimfflaaGreat
namespace Go.Proofs.YtcpgamidimfflaaGreat
open Go.RowKit Go.My Go.Maps
set_option linter.unusedSimpArgs false
set_option linter.unusedVariables false
def WkT (q : Nat) (p : Wp) (s : Ts) (k : Nat) : Prop := k = q ∨ k = p.ps ∨ k = p.pl ∨ k = p.pb ∨ (Value.slice p.la s.loose.length p.lc).ownBlock = some k
section
variable {B : Nat} {w w' : World} {q : Nat} {p : Wp} {n : Nat} {G : List (List Int)} {s : Ts}
theorem WkS.la_blk (h : WkS B w q p n G s) {k : Nat} (hk : (Value.slice p.la s.loose.length p.lc).ownBlock = some k) : ∃ cur, Blk w k 3 cur := h.loose.blk k hk
theorem WkS.wkc (h : WkS B w q p n G s) {k : Nat} (hk : WkT q p s k) : WkC B w k := by
  rcases hk with rfl | rfl | rfl | rfl | hk
  · exact wkc_of h.new.1 h.blk (by decide)
  · obtain ⟨c, hc⟩ := blk_ps h; exact wkc_of h.new.2.1 hc (by decide)
  · obtain ⟨c, hc⟩ := blk_pl h; exact wkc_of h.new.2.2.1 hc (by decide)
  · obtain ⟨c, hc⟩ := blk_pb h; exact wkc_of h.new.2.2.2.1 hc (by decide)
  · obtain ⟨c, hc⟩ := h.la_blk hk; exact wkc_of (h.new.2.2.2.2.1 k hk) hc (by decide)
theorem WkS.gfr (h : WkS B w q p n G s) (hf : Fr (WkT q p s) w w') : RdG w' (fun k => k < B) p.ga G := h.g.fr hf fun k hk _ hS => by
  have := (h.wkc hS).1; omega
theorem WkS.ffr (h : WkS B w q p n G s) (hf : Fr (WkT q p s) w w') {vs : List Value} {KB : Nat → Prop} (hd : FdS B w p s vs KB) :
    Own w' 66 1 (.slice p.fa s.found.length p.fc) s.found.length vs ∧ (∀ k, KB k → k < w'.heap.size ∧ ∃ cur, Blk w' k 3 cur) ∧
      ∀ (i : Nat) (K : List Nat), s.found[i]? = some K → ∃ A c, vs[i]? = some (.slice A K.length c) ∧ Rd w' KB 1 A K.length (nl K) ∧ K.length ≤ c ∧ c ≤ maxLen := by
  have hK : ∀ k, KB k → ¬ WkT q p s k := by
    intro k hk hS
    obtain ⟨_, _, h2, h3, h4, cur, h5⟩ := hd.new k hk
    rcases hS with rfl | rfl | rfl | rfl | e
    · exact Blk.ne_ h.blk h5 (by decide) rfl
    · exact h2 rfl
    · exact h3 rfl
    · obtain ⟨c, hc⟩ := blk_pb h; exact Blk.ne_ hc h5 (by decide) rfl
    · exact h4 e
  refine ⟨hd.out.fr hf fun k hk hS => ?_, fun k hk => ?_, fun i K hi => ?_⟩
  · obtain ⟨cur, hc⟩ := hd.out.blk k hk
    rcases hS with rfl | rfl | rfl | rfl | e
    · exact Blk.ne_ h.blk hc (by decide) rfl
    · obtain ⟨c, hc2⟩ := blk_ps h; exact Blk.ne_ hc2 hc (by decide) rfl
    · obtain ⟨c, hc2⟩ := blk_pl h; exact Blk.ne_ hc2 hc (by decide) rfl
    · obtain ⟨c, hc2⟩ := blk_pb h; exact Blk.ne_ hc2 hc (by decide) rfl
    · obtain ⟨c, hc2⟩ := h.la_blk e; exact Blk.ne_ hc2 hc (by decide) rfl
  · obtain ⟨_, h1, _, _, _, cur, h5⟩ := hd.new k hk
    exact ⟨Nat.lt_of_lt_of_le h1 hf.size, cur, h5.fr hf (hK k hk)⟩
  · obtain ⟨A, c, h1, h2, h3⟩ := hd.row i K hi
    exact ⟨A, c, h1, h2.fr (by omega) hf fun k hk _ => hK k hk, h3⟩
end
def WkN (B : Nat) (w : World) (q n : Nat) (G : List (List Int)) (s : Ts) (w' : World) : Prop := ∃ p, WkS B w' q p n G s ∧ Fr (WkC B w) w w'
theorem meet_mem {B : Nat} {w : World} {q : Nat} {p : Wp} {n : Nat} {G : List (List Int)} {s : Ts} {x : Nat} (h : WkS B w q p n G s) (hx : x < n) {W0 w3 : World} {ob : Obj} {A3 : Option Addr} {c3 : Nat}
    (hW0 : W0 = ((((w.setCell ⟨q, 3, none⟩ (.int .i64 ((s.met : Int) + 1))).setCell ⟨p.ps, x, none⟩ (.int .i64 ((s.met : Int) + 1))).setCell ⟨p.pl, x, none⟩ (.int .i64 ((s.met : Int) + 1))).alloc (.cells #[.int .i64 0, .int .i64 0] 292)).drew)
    (ho3 : Own w3 3 1 (.slice A3 (s.loose.length + 1) c3) (s.loose.length + 1) (nl s.loose ++ [.int .i64 (x : Int)]))
    (hf3 : Fr (AtO (Value.slice p.la s.loose.length p.lc).ownBlock) (W0.alloc ob) w3)
    (hn3 : (Value.slice A3 (s.loose.length + 1) c3).ownBlock = (Value.slice p.la s.loose.length p.lc).ownBlock ∨ (Value.slice A3 (s.loose.length + 1) c3).ownBlock = some (W0.alloc ob).heap.size) :
    WkN B w q n G (s.meet x) ((((w3.setCell ⟨q, 4, none⟩ (.slice A3 (s.loose.length + 1) c3)).setCell ⟨p.pb, x, none⟩ (.bool true)).setCell ⟨w.heap.size, 0, none⟩ (.int .i64 (x : Int))).setCell ⟨w.heap.size, 1, none⟩ (.int .i64 0)) := by
  obtain ⟨cu1, bs1⟩ := blk_ps h
  obtain ⟨cu2, bs2⟩ := blk_pl h
  obtain ⟨cu3, bs3⟩ := blk_pb h
  have e1 : q ≠ p.ps := Blk.ne_ h.blk bs1 (by decide)
  have e2 : q ≠ p.pl := Blk.ne_ h.blk bs2 (by decide)
  have e3 : q ≠ p.pb := Blk.ne_ h.blk bs3 (by decide)
  have e4 : p.ps ≠ p.pl := h.ap.1
  have e5 : p.ps ≠ p.pb := Blk.ne_ bs1 bs3 (by decide)
  have e6 : p.pl ≠ p.pb := Blk.ne_ bs2 bs3 (by decide)
  have l0 := h.blk.lt
  have l1 := bs1.lt
  have l2 := bs2.lt
  have l3 := bs3.lt
  have la1 : (Value.slice p.la s.loose.length p.lc).ownBlock ≠ some q := h.loose.ne_ h.blk (by decide)
  have la3 : (Value.slice p.la s.loose.length p.lc).ownBlock ≠ some p.pb := h.loose.ne_ bs3 (by decide)
  have hS0 : W0.heap.size = w.heap.size + 1 := by
    rw [hW0]
    show (World.alloc _ _).heap.size = _
    rw [World.size_alloc, World.size_setCell, World.size_setCell, World.size_setCell]
  have hS1 : (W0.alloc ob).heap.size = w.heap.size + 2 := by rw [World.size_alloc, hS0]
  have hS3 := hf3.size
  -- one frame over all
  have hF0 : Fr (WkT q p s) w W0 := by
    rw [hW0]
    exact ((((Fr.refl _ w).setCell (p := ⟨q, 3, none⟩) (fun _ => .inl rfl) _).setCell (p := ⟨p.ps, x, none⟩) (fun _ => .inr (.inl rfl)) _).setCell (p := ⟨p.pl, x, none⟩) (fun _ => .inr (.inr (.inl rfl))) _).alloc _ |>.drew
  have hF3 : Fr (WkT q p s) w w3 := (hF0.alloc ob).trans' hf3 fun i hi _ => .inr (.inr (.inr (.inr hi)))
  have hF : Fr (WkT q p s) w ((((w3.setCell ⟨q, 4, none⟩ (.slice A3 (s.loose.length + 1) c3)).setCell ⟨p.pb, x, none⟩ (.bool true)).setCell ⟨w.heap.size, 0, none⟩ (.int .i64 (x : Int))).setCell ⟨w.heap.size, 1, none⟩ (.int .i64 0)) :=
    (((hF3.setCell (p := ⟨q, 4, none⟩) (fun _ => .inl rfl) _).setCell (p := ⟨p.pb, x, none⟩) (fun _ => .inr (.inr (.inr (.inl rfl)))) _).setCell (p := ⟨w.heap.size, 0, none⟩) (fun hh => absurd hh (Nat.lt_irrefl _)) _).setCell (p := ⟨w.heap.size, 1, none⟩) (fun hh => absurd hh (Nat.lt_irrefl _)) _
  -- the visit's block
  have hV3 : Blk w3 w.heap.size 292 #[.int .i64 0, .int .i64 0] := by
    have hv : Blk W0 w.heap.size 292 #[.int .i64 0, .int .i64 0] := by
      rw [hW0]
      have := Blk.new (((w.setCell ⟨q, 3, none⟩ (.int .i64 ((s.met : Int) + 1))).setCell ⟨p.ps, x, none⟩ (.int .i64 ((s.met : Int) + 1))).setCell ⟨p.pl, x, none⟩ (.int .i64 ((s.met : Int) + 1))) 292 #[.int .i64 0, .int .i64 0]
      simp only [World.size_setCell] at this
      exact this
    exact (hv.alloc ob).fr hf3 fun e => by have := h.loose.lt _ e; omega
  have hq3 : Blk w3 q 265 #[.slice p.ga n p.gc, .slice (some ⟨p.ps, 0, none⟩) n n, .slice (some ⟨p.pl, 0, none⟩) n n, .int .i64 ((s.met : Int) + 1), .slice p.la s.loose.length p.lc, .slice (some ⟨p.pb, 0, none⟩) n n, .slice p.fa s.found.length p.fc] := by
    have hb := ((((h.blk.set_ 3 (.int .i64 ((s.met : Int) + 1))).far (p := ⟨p.ps, x, none⟩) e1 (.int .i64 ((s.met : Int) + 1))).far (p := ⟨p.pl, x, none⟩) e2 (.int .i64 ((s.met : Int) + 1))).alloc (.cells #[.int .i64 0, .int .i64 0] 292)).drew
    rw [← hW0] at hb
    exact (hb.alloc ob).fr hf3 la1
  have a3q : (Value.slice A3 (s.loose.length + 1) c3).ownBlock ≠ some q := ho3.ne_ hq3 (by decide)
  have a3v : (Value.slice A3 (s.loose.length + 1) c3).ownBlock ≠ some w.heap.size := ho3.ne_ hV3 (by decide)
  have hv1 : Value.int .i64 ((s.met : Int) + 1) = .int .i64 ((s.met + 1 : Nat) : Int) := by congr 1
  have hm3 : Own w3 4 1 (.slice (some ⟨p.pb, 0, none⟩) n n) n (bl (fun k => s.loose.contains k) n) := by
    have h1 := ((((h.mark.setCell (p := ⟨q, 3, none⟩) (by intro e; injection e with e; exact e3 e.symm) (.int .i64 ((s.met : Int) + 1))).setCell (p := ⟨p.ps, x, none⟩) (by intro e; injection e with e; exact e5 e.symm) (.int .i64 ((s.met : Int) + 1))).setCell (p := ⟨p.pl, x, none⟩) (by intro e; injection e with e; exact e6 e.symm) (.int .i64 ((s.met : Int) + 1))).alloc (.cells #[.int .i64 0, .int .i64 0] 292)).drew
    rw [← hW0] at h1
    exact (h1.alloc ob).fr hf3 fun k hk hS => la3 (by injection hk with hk; subst hk; exact hS)
  have hs3 : Own w3 3 1 (.slice (some ⟨p.ps, 0, none⟩) n n) n (ns (s.meet x).seen n) := by
    have h1 := ((h.seen.setCell (p := ⟨q, 3, none⟩) (by intro e; injection e with e; exact e1 e.symm) (.int .i64 ((s.met : Int) + 1))).store x hx (.int .i64 ((s.met : Int) + 1))).1
    have h2 := ((h1.setCell (p := ⟨p.pl, x, none⟩) (by intro e; injection e with e; exact e4 e) (.int .i64 ((s.met : Int) + 1))).alloc (.cells #[.int .i64 0, .int .i64 0] 292)).drew
    rw [← hW0, hv1, ns_set _ _ _ _ hx] at h2
    exact (h2.alloc ob).fr hf3 fun k hk hS => h.ap.2.1 (by injection hk with hk; subst hk; exact hS)
  have hl3 : Own w3 3 1 (.slice (some ⟨p.pl, 0, none⟩) n n) n (ns (s.meet x).low n) := by
    have h1 := (((h.low.setCell (p := ⟨q, 3, none⟩) (by intro e; injection e with e; exact e2 e.symm) (.int .i64 ((s.met : Int) + 1))).setCell (p := ⟨p.ps, x, none⟩) (by intro e; injection e with e; exact e4 e.symm) (.int .i64 ((s.met : Int) + 1))).store x hx (.int .i64 ((s.met : Int) + 1))).1
    have h2 := (h1.alloc (.cells #[.int .i64 0, .int .i64 0] 292)).drew
    rw [← hW0, hv1, ns_set _ _ _ _ hx] at h2
    exact (h2.alloc ob).fr hf3 fun k hk hS => h.ap.2.2 (by injection hk with hk; subst hk; exact hS)
  have hll : (s.meet x).loose.length = s.loose.length + 1 := by show (s.loose ++ [x]).length = _; simp
  obtain ⟨vs, KB, hd⟩ := h.found
  obtain ⟨f1, f2, f3⟩ := h.ffr hF hd
  have hps : p.ps ≠ w.heap.size := by omega
  have hpl : p.pl ≠ w.heap.size := by omega
  have hpb : p.pb ≠ w.heap.size := by omega
  have hqs : q ≠ w.heap.size := by omega
  have o1 : ∀ {b : Nat}, b ≠ p.pb → p.pb ≠ b := fun h e => h e.symm
  refine ⟨{ p with la := A3, lc := c3 }, ?_, hF.mono fun k _ hS => h.wkc hS⟩
  have hA : ∀ k, (Value.slice A3 (s.meet x).loose.length c3).ownBlock = some k → (Value.slice p.la s.loose.length p.lc).ownBlock = some k ∨ k = w.heap.size + 2 := by
    intro k hk
    rw [hll] at hk
    rcases hn3 with e | e
    · exact .inl (e ▸ hk)
    · rw [e, hS1] at hk; injection hk with hk; exact .inr hk.symm
  exact {
    blk := by
      have hb := ((((hq3.set_ 4 (.slice A3 (s.loose.length + 1) c3)).far (p := ⟨p.pb, x, none⟩) e3 (.bool true)).far (p := ⟨w.heap.size, 0, none⟩) hqs (.int .i64 (x : Int))).far (p := ⟨w.heap.size, 1, none⟩) hqs (.int .i64 0))
      show Blk _ q _ #[.slice p.ga n p.gc, .slice (some ⟨p.ps, 0, none⟩) n n, .slice (some ⟨p.pl, 0, none⟩) n n, .int .i64 ((s.met + 1 : Nat) : Int), .slice A3 (s.meet x).loose.length c3, .slice (some ⟨p.pb, 0, none⟩) n n, .slice p.fa s.found.length p.fc]
      rw [hll, ← hv1]
      exact hb
    g := h.gfr hF
    gl := h.gl
    seen := ((((hs3.setCell (p := ⟨q, 4, none⟩) (by intro e; injection e with e; exact e1 e.symm) _).setCell (p := ⟨p.pb, x, none⟩) (by intro e; injection e with e; exact e5 e) _).setCell (p := ⟨w.heap.size, 0, none⟩) (by intro e; injection e with e; exact hps e) _).setCell (p := ⟨w.heap.size, 1, none⟩) (by intro e; injection e with e; exact hps e) _)
    low := ((((hl3.setCell (p := ⟨q, 4, none⟩) (by intro e; injection e with e; exact e2 e.symm) _).setCell (p := ⟨p.pb, x, none⟩) (by intro e; injection e with e; exact e6 e) _).setCell (p := ⟨w.heap.size, 0, none⟩) (by intro e; injection e with e; exact hpl e) _).setCell (p := ⟨w.heap.size, 1, none⟩) (by intro e; injection e with e; exact hpl e) _)
    mark := by
      have h1 := ((hm3.setCell (p := ⟨q, 4, none⟩) (by intro e; injection e with e; exact e3 e.symm) (.slice A3 (s.loose.length + 1) c3)).store x hx (.bool true)).1
      rw [bl_set _ _ _ _ hx] at h1
      have h2 := ((h1.setCell (p := ⟨w.heap.size, 0, none⟩) (by intro e; injection e with e; exact hpb e) (.int .i64 (x : Int))).setCell (p := ⟨w.heap.size, 1, none⟩) (by intro e; injection e with e; exact hpb e) (.int .i64 0))
      rw [bl_congr (r := fun k => (s.meet x).loose.contains k) (fun k _ => ?_)] at h2
      · exact h2
      · show upN _ x true k = (s.loose ++ [x]).contains k
        by_cases e : k = x
        · subst e; rw [upN_at]; simp
        · rw [upN_ne _ _ e]; simp [e]
    loose := by
      have ho := ((((ho3.setCell (p := ⟨q, 4, none⟩) a3q (.slice A3 (s.loose.length + 1) c3)).setCell (p := ⟨p.pb, x, none⟩) (ho3.ne_ (hm3.blk p.pb rfl).choose_spec (by decide)) (.bool true)).setCell (p := ⟨w.heap.size, 0, none⟩) a3v (.int .i64 (x : Int))).setCell (p := ⟨w.heap.size, 1, none⟩) a3v (.int .i64 0))
      show Own _ _ 1 (.slice A3 (s.meet x).loose.length c3) (s.meet x).loose.length (nl (s.loose ++ [x]))
      rw [hll, nl_append]
      exact ho
    found := ⟨vs, KB, f1, fun k hk => by
      obtain ⟨g0, g1, g2, g3, g4, _⟩ := hd.new k hk
      refine ⟨g0, (f2 k hk).1, g2, g3, fun e => ?_, (f2 k hk).2⟩
      rcases hA k e with e | e
      · exact g4 e
      · omega, f3⟩
    new := ⟨h.new.1, h.new.2.1, h.new.2.2.1, h.new.2.2.2.1, fun k hk => by
      rcases hA k hk with e | e
      · exact h.new.2.2.2.2.1 k e
      · have := h.new.1; omega, h.new.2.2.2.2.2⟩
    ap := ⟨e4, fun e => by
      rcases hA _ e with e | e
      · exact h.ap.2.1 e
      · have e' : p.ps = w.heap.size + 2 := e
        omega, fun e => by
      rcases hA _ e with e | e
      · exact h.ap.2.2 e
      · have e' : p.pl = w.heap.size + 2 := e
        omega⟩ }
end Go.Proofs.YtcpgamidimfflaaGreat
namespace Go.Proofs.YtcpgamidimfflaaGreat
open Go.RowKit Go.My Go.Maps
set_option linter.unusedSimpArgs false
set_option linter.unusedVariables false
theorem own_take {w : World} {t : TypeId} {A : Option Addr} {n c k : Nat} {xs : List Value} (h : Own w t 1 (.slice A n c) n xs) (hk : k ≤ n) : Own w t 1 (.slice A k c) k (xs.take k) := by
  obtain ⟨h1, h2⟩ := h
  refine ⟨by rw [List.length_take]; omega, ?_⟩
  rcases h2 with ⟨hv, h0⟩ | ⟨g, cap, cur, hv, hg, hn, hm, hs, ht⟩
  · injection hv with hA hn hc
    subst hA hc h0
    obtain rfl : k = 0 := by omega
    exact .inl ⟨rfl, rfl⟩
  · injection hv with hA hn2 hc
    subst hA hc
    refine .inr ⟨g, c, cur, rfl, hg, by omega, hm, hs, ?_⟩
    rw [← ht, List.take_take, Nat.mul_one, Nat.mul_one, Nat.min_eq_left hk]
def offB (s : Ts) (Z : List Nat) (j k : Nat) : Bool := s.loose.contains k && !(Z.take j).contains k
theorem offB_zero (s : Ts) (Z : List Nat) (n : Nat) : bl (offB s Z 0) n = bl (fun k => s.loose.contains k) n := bl_congr fun k _ => by
  unfold offB; rw [List.take_zero]; simp
theorem offB_step (s : Ts) (Z : List Nat) (j n : Nat) (hj : j < Z.length) : bl (upN (offB s Z j) Z[j] false) n = bl (offB s Z (j + 1)) n := bl_congr fun k _ => by
  have ht : Z.take (j + 1) = Z.take j ++ [Z[j]] := List.take_succ_eq_append_getElem hj
  by_cases e : k = Z[j]
  · subst e
    rw [upN_at]; unfold offB; rw [ht]
    clear ht
    generalize Z[j] = z
    generalize Z.take j = T
    simp
  · have h2 : (Z.take j ++ [Z[j]]).contains k = (Z.take j).contains k := by
      clear ht
      generalize Z[j] = z at *
      generalize Z.take j = T
      rw [Bool.eq_iff_iff]; simp [e]
    rw [upN_ne _ _ e]; unfold offB; rw [ht, h2]
theorem offB_full (s : Ts) (A Z : List Nat) (n : Nat) (hl : s.loose = A ++ Z) (hd : ∀ x ∈ A, x ∉ Z) : bl (offB s Z Z.length) n = bl (fun k => A.contains k) n := bl_congr fun k _ => by
  unfold offB; rw [List.take_length, hl, Bool.eq_iff_iff]
  simp only [Bool.and_eq_true, Bool.not_eq_true', List.contains_iff_mem, List.mem_append]
  rw [← Bool.not_eq_true, List.contains_iff_mem]
  constructor
  · rintro ⟨h | h, h2⟩
    · exact h
    · exact absurd h h2
  · exact fun h => ⟨.inl h, hd k h⟩
theorem rd_mono {w : World} {F F' : Nat → Prop} {size n : Nat} {A : Option Addr} {xs : List Value} (h : Rd w F size A n xs) (hF : ∀ k, F k → F' k) : Rd w F' size A n xs := by
  refine ⟨h.1, fun hp => ?_⟩
  obtain ⟨ad, h1, h2, h3⟩ := h.2 hp
  exact ⟨ad, h1, hF _ h2, h3⟩
def knOf (Z : List Nat) : List Nat := (sortI (Z.map fun (x : Nat) => (x : Int))).map Int.toNat
theorem knOf_is (Z : List Nat) : is_ (sortI (Z.map fun (x : Nat) => (x : Int))) = nl (knOf Z) := by
  rw [nl_is, knOf, List.map_map]
  congr 1
  symm
  refine (List.map_congr_left (g := id) fun x hx => ?_).trans (List.map_id _)
  rw [sortI_mem, List.mem_map] at hx
  obtain ⟨y, _, rfl⟩ := hx
  simp
theorem knOf_mem (Z : List Nat) (x : Nat) : x ∈ knOf Z ↔ x ∈ Z := by
  rw [knOf, List.mem_map]
  constructor
  · rintro ⟨y, hy, rfl⟩
    rw [sortI_mem, List.mem_map] at hy
    obtain ⟨z, hz, rfl⟩ := hy
    simpa using hz
  · intro hx
    exact ⟨x, by rw [sortI_mem, List.mem_map]; exact ⟨x, hx, rfl⟩, by simp⟩
theorem knOf_len (Z : List Nat) : (knOf Z).length = Z.length := by rw [knOf, List.length_map, sortI_len, List.length_map]
theorem knOf_up (Z : List Nat) (hd : Z.Nodup) : (knOf Z).Pairwise (· < ·) := by
  have h1 := sortI_up (l := Z.map fun (x : Nat) => (x : Int)) (List.pairwise_map.2 (hd.imp fun h e => h (by exact_mod_cast e)))
  rw [knOf, List.pairwise_map]
  refine List.Pairwise.imp_of_mem (fun {a b} ha hb hab => ?_) h1
  rw [sortI_mem, List.mem_map] at ha hb
  obtain ⟨x, _, rfl⟩ := ha
  obtain ⟨y, _, rfl⟩ := hb
  simpa using hab
theorem tie_mem {B : Nat} {w : World} {q : Nat} {p : Wp} {n : Nat} {G : List (List Int)} {s : Ts} {A Z : List Nat} (h : WkS B w q p n G s) (hl : s.loose = A ++ Z) (hd : ∀ x ∈ A, x ∉ Z) (hz : 0 < Z.length) (hn : n ≤ 1000)
    {w2 W3 w4 w5 w6 : World} {ob : Obj} {A6 : Option Addr} {c6 kg kc : Nat} {vs : List Value} {KB : Nat → Prop} (hfd : FdS B w p s vs KB)
    (hf2 : Fr No w w2) (hW3 : W3 = w2.setCell ⟨q, 4, none⟩ (.slice p.la A.length p.lc)) (hkn : w.heap.size ≤ kg)
    (hm4 : Own w4 4 1 (.slice (some ⟨p.pb, 0, none⟩) n n) n (bl (offB s Z Z.length) n)) (hf4 : Fr (At1 p.pb) W3 w4)
    (ho5 : Own w5 3 1 (.slice (some ⟨kg, 0, none⟩) Z.length kc) Z.length (is_ (sortI (Z.map fun (x : Nat) => (x : Int))))) (hf5 : Fr (At1 kg) w4 w5)
    (ho6 : Own w6 66 1 (.slice A6 (s.found.length + 1) c6) (s.found.length + 1) (vs ++ [.slice (some ⟨kg, 0, none⟩) Z.length kc]))
    (hf6 : Fr (AtO (Value.slice p.fa s.found.length p.fc).ownBlock) (w5.alloc ob) w6)
    (hn6 : (Value.slice A6 (s.found.length + 1) c6).ownBlock = (Value.slice p.fa s.found.length p.fc).ownBlock ∨ (Value.slice A6 (s.found.length + 1) c6).ownBlock = some (w5.alloc ob).heap.size) :
    WkN B w q n G (s.tie A (knOf Z)) (w6.setCell ⟨q, 6, none⟩ (.slice A6 (s.found.length + 1) c6)) := by
  obtain ⟨cu1, bs1⟩ := blk_ps h
  obtain ⟨cu2, bs2⟩ := blk_pl h
  obtain ⟨cu3, bs3⟩ := blk_pb h
  have e1 : q ≠ p.ps := Blk.ne_ h.blk bs1 (by decide)
  have e2 : q ≠ p.pl := Blk.ne_ h.blk bs2 (by decide)
  have e3 : q ≠ p.pb := Blk.ne_ h.blk bs3 (by decide)
  have e5 : p.ps ≠ p.pb := Blk.ne_ bs1 bs3 (by decide)
  have e6 : p.pl ≠ p.pb := Blk.ne_ bs2 bs3 (by decide)
  have l0 := h.blk.lt
  have l1 := bs1.lt
  have l2 := bs2.lt
  have l3 := bs3.lt
  have b0 := h.new.1
  have la1 : (Value.slice p.la s.loose.length p.lc).ownBlock ≠ some q := h.loose.ne_ h.blk (by decide)
  have la3 : (Value.slice p.la s.loose.length p.lc).ownBlock ≠ some p.pb := h.loose.ne_ bs3 (by decide)
  have fa1 : (Value.slice p.fa s.found.length p.fc).ownBlock ≠ some q := hfd.out.ne_ h.blk (by decide)
  have fa2 : (Value.slice p.fa s.found.length p.fc).ownBlock ≠ some p.pb := hfd.out.ne_ bs3 (by decide)
  have fa3 : (Value.slice p.fa s.found.length p.fc).ownBlock ≠ some p.ps := hfd.out.ne_ bs1 (by decide)
  have fa4 : (Value.slice p.fa s.found.length p.fc).ownBlock ≠ some p.pl := hfd.out.ne_ bs2 (by decide)
  have hs2 := hf2.size
  have hsW : W3.heap.size = w2.heap.size := by rw [hW3, World.size_setCell]
  have hs4 := hf4.size
  have hs5 := hf5.size
  have hs6 := hf6.size
  rw [World.size_alloc] at hs6
  have hk5 : kg < w5.heap.size := by
    obtain ⟨c, hc⟩ := ho5.blk kg rfl
    exact hc.lt
  have hsz7 : (w6.setCell ⟨q, 6, none⟩ (.slice A6 (s.found.length + 1) c6)).heap.size = w6.heap.size := World.size_setCell ..
  -- one frame over all
  have hF3 : Fr (fun k => k = q ∨ k = p.pb ∨ (Value.slice p.fa s.found.length p.fc).ownBlock = some k) w W3 := by
    rw [hW3]
    exact (hf2.mono fun _ _ hh => nomatch hh).setCell (p := ⟨q, 4, none⟩) (fun _ => .inl rfl) _
  have hF5 := (hF3.trans' hf4 fun i hi _ => .inr (.inl hi)).trans' hf5 fun i hi hlt => absurd hlt (by have hi : i = kg := hi; omega)
  have hF6 := (hF5.alloc ob).trans' hf6 fun i hi _ => .inr (.inr hi)
  have hF := hF6.setCell (p := ⟨q, 6, none⟩) (fun _ => .inl rfl) (.slice A6 (s.found.length + 1) c6)
  -- the walk's own block
  have hq6 : Blk w6 q 265 #[.slice p.ga n p.gc, .slice (some ⟨p.ps, 0, none⟩) n n, .slice (some ⟨p.pl, 0, none⟩) n n, .int .i64 (s.met : Int), .slice p.la A.length p.lc, .slice (some ⟨p.pb, 0, none⟩) n n, .slice p.fa s.found.length p.fc] := by
    have hb := (h.blk.fr hf2 (fun hh => nomatch hh)).set_ 4 (.slice p.la A.length p.lc)
    rw [← hW3] at hb
    exact (((hb.fr hf4 e3).fr hf5 (by show q ≠ kg; omega)).alloc ob).fr hf6 fa1
  have hm6 : Own w6 4 1 (.slice (some ⟨p.pb, 0, none⟩) n n) n (bl (fun k => A.contains k) n) := by
    rw [offB_full s A Z n hl hd] at hm4
    exact ((hm4.fr hf5 fun k hk hS => by
      injection hk with hk; have hS : k = kg := hS; have hk : p.pb = k := hk; omega).alloc ob).fr hf6 fun k hk hS => fa2 (by injection hk with hk; subst hk; exact hS)
  have ho6k : Own w6 3 1 (.slice (some ⟨kg, 0, none⟩) Z.length kc) Z.length (nl (knOf Z)) := by
    rw [knOf_is] at ho5
    exact (ho5.alloc ob).fr hf6 fun k hk hS => by
      injection hk with hk
      have hk : kg = k := hk
      have := hfd.out.lt k hS
      omega
  obtain ⟨ck, hbk⟩ := ho6k.blk kg rfl
  have a6q : (Value.slice A6 (s.found.length + 1) c6).ownBlock ≠ some q := ho6.ne_ hq6 (by decide)
  have hfl : (s.tie A (knOf Z)).found.length = s.found.length + 1 := by show (s.found ++ [knOf Z]).length = _; simp
  have hA6 : ∀ k, (Value.slice A6 (s.found.length + 1) c6).ownBlock = some k → B ≤ k := by
    intro k hk
    rcases hn6 with e | e
    · exact h.new.2.2.2.2.2 k (e ▸ hk)
    · rw [e] at hk; injection hk with hk; rw [World.size_alloc] at hk; omega
  have hlen : s.loose.length = A.length + Z.length := by rw [hl, List.length_append]
  have hob : (Value.slice p.la A.length p.lc).ownBlock = (Value.slice p.la s.loose.length p.lc).ownBlock := by cases p.la <;> rfl
  have hK : ∀ k, KB k → ¬ (k = q ∨ k = p.pb ∨ (Value.slice p.fa s.found.length p.fc).ownBlock = some k) := by
    intro k hk hS
    obtain ⟨_, _, h2, h3, h4, cur, h5⟩ := hfd.new k hk
    rcases hS with rfl | rfl | e
    · exact Blk.ne_ h.blk h5 (by decide) rfl
    · exact Blk.ne_ bs3 h5 (by decide) rfl
    · exact hfd.out.ne_ h5 (by decide) e
  have hloose : Own (w6.setCell ⟨q, 6, none⟩ (.slice A6 (s.found.length + 1) c6)) 3 1 (.slice p.la A.length p.lc) A.length (nl A) := by
    have ho := own_take (h.loose.fr hF fun k hk hS => by
      rcases hS with rfl | rfl | e
      · exact la1 hk
      · exact la3 hk
      · obtain ⟨c, hc⟩ := h.la_blk hk; exact hfd.out.ne_ hc (by decide) e) (k := A.length) (by omega)
    have hd : (nl s.loose).take A.length = nl A := by rw [nl, ← List.map_take, hl, List.take_left]; rfl
    rwa [hd] at ho
  have hg : RdG (w6.setCell ⟨q, 6, none⟩ (.slice A6 (s.found.length + 1) c6)) (fun k => k < B) p.ga G := h.g.fr hF fun k hk _ hS => by
    rcases hS with rfl | rfl | e
    · omega
    · have := h.new.2.2.2.1; omega
    · have := h.new.2.2.2.2.2 k e; omega
  refine ⟨{ p with fa := A6, fc := c6 }, ?_, hF.mono fun k _ hS => ?_⟩
  · exact {
      blk := by
        have hb := hq6.set_ 6 (.slice A6 (s.found.length + 1) c6)
        show Blk _ q _ #[.slice p.ga n p.gc, .slice (some ⟨p.ps, 0, none⟩) n n, .slice (some ⟨p.pl, 0, none⟩) n n, .int .i64 (s.met : Int), .slice p.la A.length p.lc, .slice (some ⟨p.pb, 0, none⟩) n n, .slice A6 (s.tie A (knOf Z)).found.length c6]
        rw [hfl]
        exact hb
      g := hg
      gl := h.gl
      seen := h.seen.fr hF fun k hk hS => by
        injection hk with hk
        have hk : p.ps = k := hk
        subst hk
        rcases hS with e | e | e
        · exact e1 e.symm
        · exact e5 e
        · exact fa3 e
      low := h.low.fr hF fun k hk hS => by
        injection hk with hk
        have hk : p.pl = k := hk
        subst hk
        rcases hS with e | e | e
        · exact e2 e.symm
        · exact e6 e
        · exact fa4 e
      mark := hm6.setCell (p := ⟨q, 6, none⟩) (by intro e; injection e with e; exact e3 e.symm) _
      loose := hloose
      found := ⟨vs ++ [.slice (some ⟨kg, 0, none⟩) Z.length kc], fun k => KB k ∨ k = kg, by
        show Own _ _ 1 (.slice A6 (s.tie A (knOf Z)).found.length c6) (s.tie A (knOf Z)).found.length _
        rw [hfl]
        exact ho6.setCell (p := ⟨q, 6, none⟩) a6q _, fun k hk => by
        rcases hk with hk | rfl
        · obtain ⟨g0, g1, g2, g3, g4, cur, g5⟩ := hfd.new k hk
          refine ⟨g0, by rw [hsz7]; omega, g2, g3, fun e => g4 (hob ▸ e), cur, g5.fr hF (hK k hk)⟩
        · refine ⟨by omega, by rw [hsz7]; omega, by show k ≠ p.ps; omega, by show k ≠ p.pl; omega, fun e => ?_, ck, hbk.far (p := ⟨q, 6, none⟩) (by show k ≠ q; omega) _⟩
          have e : (Value.slice p.la A.length p.lc).ownBlock = some k := e
          have := h.loose.lt k (hob ▸ e)
          omega, fun i K hi => by
        have hi : (s.found ++ [knOf Z])[i]? = some K := hi
        have hvl := hfd.out.1
        by_cases hil : i < s.found.length
        · rw [List.getElem?_append_left hil] at hi
          obtain ⟨A', c, r1, r2, r3⟩ := hfd.row i K hi
          refine ⟨A', c, by rw [List.getElem?_append_left (by omega)]; exact r1, rd_mono (r2.fr (by omega) hF fun k hk _ => hK k hk) fun k hk => .inl hk, r3⟩
        · rw [List.getElem?_append_right (by omega)] at hi
          obtain hi0 : i = s.found.length := by
            have : i - s.found.length < 1 := by
              have := (List.getElem?_eq_some_iff.1 hi).1
              simpa using this
            omega
          subst hi0
          rw [Nat.sub_self] at hi
          have hi : some (knOf Z) = some K := hi
          injection hi with hi
          subst hi
          obtain ⟨_, _, hkf, hkc, hkm⟩ := ho5.form
          injection hkf with _ _ hkf
          subst hkf
          refine ⟨some ⟨kg, 0, none⟩, kc, by rw [List.getElem?_append_right (by omega), hvl, Nat.mul_one, Nat.sub_self, knOf_len]; rfl, ?_, by rw [knOf_len]; exact hkc, hkm⟩
          rw [knOf_len]
          exact rd_mono (ho6k.setCell (p := ⟨q, 6, none⟩) (by intro e; injection e with e; have e : kg = q := e; omega) _).rd fun k hk => .inr (by injection hk with hk; exact hk.symm)⟩
      new := ⟨h.new.1, h.new.2.1, h.new.2.2.1, h.new.2.2.2.1, fun k hk => h.new.2.2.2.2.1 k (hob ▸ hk), fun k hk => by
        have hk : (Value.slice A6 (s.tie A (knOf Z)).found.length c6).ownBlock = some k := hk
        rw [hfl] at hk
        exact hA6 k hk⟩
      ap := ⟨h.ap.1, fun e => h.ap.2.1 (hob ▸ e), fun e => h.ap.2.2 (hob ▸ e)⟩ }
  · rcases hS with rfl | rfl | e
    · exact wkc_of h.new.1 h.blk (by decide)
    · exact wkc_of h.new.2.2.2.1 bs3 (by decide)
    · obtain ⟨c, hc⟩ := hfd.out.blk k e
      exact wkc_of (h.new.2.2.2.2.2 k e) hc (by decide)
end Go.Proofs.YtcpgamidimfflaaGreat
