/- The heap of names: heap.Push and heap.Pop. -/
import Derived.Test.YtcjofakhefpfdaaKnH3
namespace Go.Proofs.Ytcjofakhefpfdaa
open Go.RowKit Go.My Go.My.Hp Go.Maps
set_option linter.unusedSimpArgs false
set_option linter.unusedVariables false
attribute [local go_sem ↓] Go.wp_at_zero Go.wp_at_succ

/-- what the heap may change: blocks behind B that hold no rows of rows -/
def HpC (B : Nat → Prop) (w : World) (k : Nat) : Prop := B k ∧ ∀ cur, ¬ Blk w k 26 cur
theorem hpc_trans {B : Nat → Prop} {a b c : World} (h : Fr (HpC B a) a b) (k : Fr (HpC B b) b c) : Fr (HpC B a) a c :=
  h.trans' k fun i hi _ => ⟨hi.1, fun cur hb => hi.2 cur (hb.fr h fun hh => hh.2 cur hb)⟩
theorem HpS.hpc {B : Nat → Prop} {w w' : World} {p : Nat} {A : Option Addr} {c : Nat} {L : List Int} (h : HpS B w p A c L) (hf : Fr (At2 p (Value.slice A L.length c).ownBlock) w w') : Fr (HpC B w) w w' :=
  hf.mono fun k _ hk => by
    rcases hk with rfl | hk
    · exact ⟨h.lo, fun cur hb => Blk.ne_ h.blk hb (by decide) rfl⟩
    · obtain ⟨c, hc⟩ := h.row.blk k hk
      exact ⟨h.new k hk, fun cur hb => Blk.ne_ hc hb (by decide) rfl⟩
theorem at_app_lt (L M : List Int) (k : Nat) (h : k < L.length) : at_ (L ++ M) k = at_ L k := by
  rw [at_lt h, at_lt (by rw [List.length_append]; omega), List.getElem_append_left h]
theorem hp_more {L : List Int} (x : Int) (h : Hp (at_ L) L.length) : Up (at_ (L ++ [x])) (L.length + 1) L.length := by
  refine Hp.up fun k h0 h1 => ?_
  rw [at_app_lt _ _ _ h1, at_app_lt _ _ _ (by omega)]
  exact h k h0 h1
theorem hp_less {L : List Int} (x : Int) (h : Hp (at_ (L ++ [x])) L.length) : Hp (at_ L) L.length := fun k h0 h1 => by
  have := h k h0 h1
  rwa [at_app_lt _ _ _ h1, at_app_lt _ _ _ (by omega)] at this
theorem last_app {M : List Int} {n : Nat} (h : M.length = n + 1) : M = M.take n ++ [at_ M n] := by
  apply List.ext_getElem?
  intro k
  by_cases hk : k < n
  · rw [List.getElem?_append_left (by rw [List.length_take]; omega), List.getElem?_take_of_lt hk]
  · rw [List.getElem?_append_right (by rw [List.length_take]; omega), List.length_take, Nat.min_eq_left (by omega)]
    by_cases e : k = n
    · subst e
      rw [Nat.sub_self, at_lt (by omega), List.getElem?_eq_getElem (by omega)]; rfl
    · rw [List.getElem?_eq_none (by omega), List.getElem?_eq_none (by simp; omega)]
theorem pop_lists {L M : List Int} {n : Nat} (hl : L.length = n + 1) (hh : Hp (at_ L) (n + 1)) (hp : M.Perm (swl L 0 n)) (hm : Hp (at_ M) n) (hf : ∀ k, n ≤ k → at_ M k = at_ (swl L 0 n) k) :
    ∃ x R, M = R ++ [x] ∧ R.length = n ∧ (x :: R).Perm L ∧ (∀ y ∈ L, x ≤ y) ∧ Hp (at_ R) R.length := by
  have hML : M.length = n + 1 := by rw [hp.length_eq, swl_length, hl]
  have e := last_app hML
  have hR : (M.take n).length = n := by rw [List.length_take]; omega
  have hx : at_ M n = at_ L 0 := by
    rw [hf n (Nat.le_refl _), at_swl (by omega) (by omega), sw_j]
  rw [hx] at e
  refine ⟨at_ L 0, M.take n, e, hR, ?_, fun y hy => ?_, ?_⟩
  · have h1 : M.Perm L := hp.trans (swl_perm (by omega) (by omega))
    rw [e] at h1
    exact (List.perm_append_singleton _ _).symm.trans h1
  · obtain ⟨k, hk, rfl⟩ := List.mem_iff_getElem.1 hy
    have := Hp.min hh k (by omega)
    rwa [at_lt hk] at this
  · refine hp_less (at_ L 0) ?_
    rw [← e, hR]
    exact hm

set_option maxRecDepth 100000 in
set_option maxHeartbeats 2000000 in
theorem hPush_any {B : Nat → Prop} {w : World} {p : Nat} {A : Option Addr} {c : Nat} {L : List Int} (h : HpS B w p A c L) (x : Int) (hh : Hp (at_ L) L.length) (hn : L.length ≤ 900000) :
    Calls Try.prog 22 #[.iface 39 (.pointer (some ⟨p, 0, none⟩)), .iface 3 (.int .i64 x)] w fun e w' => e = .returned (.tuple #[]) ∧ ∃ (A' : Option Addr) (c' : Nat) (M : List Int), M.Perm (x :: L) ∧ Hp (at_ M) M.length ∧ HpS B w' p A' c' M ∧ Fr (HpC B w) w w' := by
  have HPU := Lib.hid (hpushm_any h x (by omega))
  have HH := Lib.hid h
  have HHP := Lib.hid hh
  have q1 := m_push (W := w) (p := p)
  have q2 := n_push (W := w) (p := p)
  have hN := Lib.hid hn
  clear h hh hn
  go_enter Try.func22, Try.ntmps22
  have HX : Hid (∀ (w2 : World) (A2 : Option Addr) (c2 : Nat), HpS B w2 p A2 c2 (L ++ [x]) → w2.cell? ⟨p, 0, none⟩ = some (.slice A2 (L.length + 1) c2) ∧ Calls Try.prog 28 #[.iface 39 (.pointer (some ⟨p, 0, none⟩)), .int .i64 (L.length : Int)] w2 fun e w' => e = .returned (.tuple #[]) ∧ ∃ M : List Int, M.Perm (L ++ [x]) ∧ M.length = (L ++ [x]).length ∧ Hp (at_ M) (L ++ [x]).length ∧ HpS B w' p A2 c2 M ∧ Fr (AtO (Value.slice A2 (L ++ [x]).length c2).ownBlock) w2 w') := Lib.hid (fun w2 A2 c2 hp2 => by
    have hl : (L ++ [x]).length = L.length + 1 := by simp
    exact ⟨hp2.cell.trans (by rw [hl]), hup_any hp2 L.length (by omega) (by rw [hl]; exact hp_more x HHP.out) (by have := hN.out; omega)⟩)
  have hw : wrap64 (L.length : Int) = (L.length : Int) := by have := hN.out; unfold wrap64; omega
  go_wp2_with (first
    | (go_at_call 75; refine HPU.out.mono ?_; rintro _ w2 ⟨rfl, A2, c2, hp2, hf2⟩; have q3 := m_len (HX.out w2 A2 c2 hp2).1; have q4 := n_len (W := w2) (p := p); have HUP := Lib.hid (HX.out w2 A2 c2 hp2).2; have HF2 := Lib.hid hf2; have HP2 := Lib.hid hp2; clear hp2 hf2)
    | (go_at_call 29; (with_reducible refine (hlen_any _ _ _ _).mono ?_); rintro _ w3 ⟨rfl, hw3⟩; obtain rfl : w2 = w3 := hw3.symm)
    | (go_at_call 28; (with_reducible refine HUP.out.mono ?_); rintro _ w4 ⟨rfl, M, hM1, hM2, hM3, hM4, hM5⟩; have HM1 := Lib.hid hM1; have HM2 := Lib.hid hM2; have HM3 := Lib.hid hM3; have HM4 := Lib.hid hM4; have HM5 := Lib.hid hM5; clear hM1 hM2 hM3 hM4 hM5))
  refine bodyPost_end (v := .tuple #[]) ?_ rfl ?_
  · simp [results, Try.results22, go_sem]
  have hm2 : M.length = (L ++ [x]).length := HM2.out
  refine ⟨rfl, A2, c2, M, HM1.out.trans (List.perm_append_singleton x L), by rw [hm2]; exact HM3.out, HM4.out, hpc_trans (HH.out.hpc HF2.out) (HP2.out.hpc (HM5.out.mono fun _ _ h => .inr h))⟩

theorem hta_any (x : Int) (W : World) : (Instr.typeAssert (.iface 3 (.int .i64 x)) 20 3 false).run Try.prog W = .ok (.int .i64 x) W := by kernel_rfl

set_option maxRecDepth 100000 in
set_option maxHeartbeats 2000000 in
theorem hPop_any {B : Nat → Prop} {w : World} {p : Nat} {A : Option Addr} {c n : Nat} {L : List Int} (h : HpS B w p A c L) (hh : Hp (at_ L) L.length) (hl : L.length = n + 1) (hn : L.length ≤ 900000) :
    Calls Try.prog 30 #[.iface 39 (.pointer (some ⟨p, 0, none⟩))] w fun e w' => ∃ (x : Int) (R : List Int), e = .returned (.iface 3 (.int .i64 x)) ∧ R.length = n ∧ (x :: R).Perm L ∧ (∀ y ∈ L, x ≤ y) ∧ Hp (at_ R) R.length ∧ HpS B w' p A c R ∧ Fr (HpC B w) w w' := by
  have c1 := h.cell
  rw [hl] at c1
  have q1 := m_len c1
  have q2 := n_len (W := w) (p := p)
  have q3 := m_swap c1
  have q4 := n_swap (W := w) (p := p)
  have hw : wrap64 (n : Int) = (n : Int) := by unfold wrap64; omega
  have HSW : Hid (Calls Try.prog 76 #[.slice A (n + 1) c, .int .i64 0, .int .i64 (n : Int)] w fun e w' => e = .returned (.tuple #[]) ∧ HpS B w' p A c (swl L 0 n) ∧ Fr (AtO (Value.slice A L.length c).ownBlock) w w') := Lib.hid (by
    have := hswap_any h 0 n (by omega) (by omega)
    rw [show Value.slice A L.length c = Value.slice A (n + 1) c by rw [hl]] at this ⊢
    exact this)
  have HX : Hid (∀ w2 : World, HpS B w2 p A c (swl L 0 n) → Calls Try.prog 36 #[.iface 39 (.pointer (some ⟨p, 0, none⟩)), .int .i64 0, .int .i64 (n : Int)] w2 fun e w' => (∃ b, e = .returned (.bool b)) ∧ ∃ (x : Int) (R : List Int), R.length = n ∧ (x :: R).Perm L ∧ (∀ y ∈ L, x ≤ y) ∧ Hp (at_ R) R.length ∧ HpS B w' p A c (R ++ [x]) ∧ Fr (AtO (Value.slice A L.length c).ownBlock) w2 w') := Lib.hid (fun w2 hp2 => by
    have e : at_ (swl L 0 n) = sw (at_ L) 0 n := funext fun k => at_swl (by omega) (by omega) k
    have hd : Dn (at_ (swl L 0 n)) n 0 := by rw [e]; exact Hp.down (by rw [hl] at hh; exact hh)
    refine (hdown_any hp2 n (by rw [swl_length]; omega) hd (by rw [swl_length]; omega)).mono ?_
    rintro e w' ⟨h1, M, m1, m2, m3, m4, m5, m6⟩
    obtain ⟨x, R, rfl, r1, r2, r3, r4⟩ := pop_lists hl (by rw [hl] at hh; exact hh) m1 m3 m4
    rw [swl_length] at m6
    exact ⟨h1, x, R, r1, r2, r3, r4, m5, m6⟩)
  have HH := Lib.hid h
  have HL := Lib.hid hl
  clear h hh hl hn
  go_enter Try.func30, Try.ntmps30
  go_wp2_with (first
    | (go_at_call 29; (with_reducible refine (hlen_any _ _ _ _).mono ?_); rintro _ w3 ⟨rfl, hw3⟩; obtain rfl : w = w3 := hw3.symm)
    | (go_at_call 76; (with_reducible refine HSW.out.mono ?_); rintro _ w2 ⟨rfl, hp2, hf2⟩; have HP2 := Lib.hid hp2; have HF2 := Lib.hid hf2; clear hp2 hf2)
    | (go_at_call 36; (with_reducible refine (HX.out _ HP2.out).mono ?_); rintro _ w4 ⟨⟨bb, rfl⟩, x, R, r1, r2, r3, r4, r5, r6⟩; have q5 := m_pop (W := w4) (p := p); have q6 := n_pop (W := w4) (p := p); have HR1 := Lib.hid r1; have HR2 := Lib.hid r2; have HR3 := Lib.hid r3; have HR4 := Lib.hid r4; have HR5 := Lib.hid r5; have HR6 := Lib.hid r6; clear r1 r2 r3 r4 r5 r6)
    | (go_at_call 74; (with_reducible refine (hpopm_any HR5.out).mono ?_); rintro _ w5 ⟨rfl, hp5, hf5⟩; have HP5 := Lib.hid hp5; have HF5 := Lib.hid hf5; clear hp5 hf5))
  go_ret
  exact ⟨x, R, rfl, HR1.out, HR2.out, HR3.out, HR4.out, HP5.out, HH.out.hpc (((HF2.out.trans HR6.out).mono fun _ _ h => .inr h).trans (HF5.out.mono fun _ _ h => .inl h))⟩
end Go.Proofs.Ytcjofakhefpfdaa
