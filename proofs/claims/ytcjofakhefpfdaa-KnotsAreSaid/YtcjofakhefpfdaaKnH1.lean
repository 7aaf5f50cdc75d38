/- The heap of names: what its methods do. -/
import Derived.Test.YtcjofakhefpfdaaKnH0
namespace Go.Proofs.Ytcjofakhefpfdaa
open Go.RowKit Go.My Go.My.Hp Go.Maps
set_option linter.unusedSimpArgs false
set_option linter.unusedVariables false
attribute [local go_sem ↓] Go.wp_at_zero Go.wp_at_succ

theorem is_cut (L : List Int) (x : Int) : (is_ (L ++ [x])).take L.length = is_ L := by unfold is_; simp
theorem own_cutL {w : World} {t : TypeId} {A : Option Addr} {n c k : Nat} {xs : List Value} (h : Own w t 1 (.slice A n c) n xs) (hk : k ≤ n) : Own w t 1 (.slice A k c) k (xs.take k) := by
  obtain ⟨h1, h2⟩ := h
  refine ⟨by rw [List.length_take]; omega, ?_⟩
  rcases h2 with ⟨hv, h0⟩ | ⟨g, cap, cur, hv, hg, hn, hm, hs, ht⟩
  · injection hv with hA hn hc
    subst hA hc h0
    obtain rfl : k = 0 := by omega
    exact .inl ⟨rfl, rfl⟩
  · injection hv with hA hn2 hc
    subst hA hc
    refine .inr ⟨g, c, cur, rfl, hg, by omega, hm, hs, ?_⟩
    rw [← ht, List.take_take, Nat.mul_one, Nat.mul_one, Nat.min_eq_left hk]
theorem hlen_any (w : World) (A : Option Addr) (n c : Nat) : Calls Try.prog 29 #[.slice A n c] w fun e w' => e = .returned (.int .i64 (n : Int)) ∧ w' = w := by
  go_enter Try.func29, Try.ntmps29
  go_wp2
  go_ret
  exact ⟨rfl, rfl⟩

set_option maxHeartbeats 1000000 in
theorem hless_any {B : Nat → Prop} {w : World} {p : Nat} {A : Option Addr} {c : Nat} {L : List Int} (h : HpS B w p A c L) (i j : Nat) (hi : i < L.length) (hj : j < L.length) :
    Calls Try.prog 73 #[.slice A L.length c, .int .i64 (i : Int), .int .i64 (j : Int)] w fun e w' => e = .returned (.bool (decide (at_ L i < at_ L j))) ∧ Fr No w w' := by
  obtain ⟨g, rfl, _, _, c1, _⟩ := h.item i hi
  obtain ⟨g', hg, _, _, c2, _⟩ := h.item j hj
  obtain rfl : g = g' := by injection hg with e; injection e
  have hiI : (i : Int) < (L.length : Int) := by omega
  have hjI : (j : Int) < (L.length : Int) := by omega
  obtain ⟨b, hb⟩ : ∃ b, b = decide (at_ L i < at_ L j) := ⟨_, rfl⟩
  rw [← hb]
  generalize at_ L i = x at *
  generalize at_ L j = y at *
  have HB := Lib.hid hb
  clear h hg hb
  go_enter Try.func73, Try.ntmps73
  go_wp2
  go_quiet (fail)
  go_wp2
  go_ret
  rw [HB.out]
  exact ⟨rfl, (Fr.refl _ _).drewN _⟩

set_option maxHeartbeats 4000000 in
theorem hswap_any {B : Nat → Prop} {w : World} {p : Nat} {A : Option Addr} {c : Nat} {L : List Int} (h : HpS B w p A c L) (i j : Nat) (hi : i < L.length) (hj : j < L.length) :
    Calls Try.prog 76 #[.slice A L.length c, .int .i64 (i : Int), .int .i64 (j : Int)] w fun e w' => e = .returned (.tuple #[]) ∧ HpS B w' p A c (swl L i j) ∧ Fr (AtO (Value.slice A L.length c).ownBlock) w w' := by
  have HH := Lib.hid h
  obtain ⟨g, rfl, _, _, c1, z1⟩ := h.item i hi
  obtain ⟨g', hg, _, _, c2, z2⟩ := h.item j hj
  obtain rfl : g = g' := by injection hg with e; injection e
  have hiI : (i : Int) < (L.length : Int) := by omega
  have hjI : (j : Int) < (L.length : Int) := by omega
  have HI := Lib.hid hi
  have HJ := Lib.hid hj
  clear h hg hi hj
  by_cases hij : i = j
  · subst hij
    go_enter Try.func76, Try.ntmps76
    go_wp2
    go_region_law (fail)
    all_goals
      refine bodyPost_end (v := .tuple #[]) ?_ rfl ?_
      · simp [results, Try.results76, go_sem]
      refine ⟨rfl, (HH.out.swap i i HI.out HJ.out).no ((Fr.refl _ _).drew), ?_⟩
      exact (((Fr.refl (AtO (some g)) w).setCell (p := ⟨g, i, none⟩) (fun _ => rfl) _).setCell (p := ⟨g, i, none⟩) (fun _ => rfl) _).drew
  · go_enter Try.func76, Try.ntmps76
    go_wp2
    go_region_law (fail)
    all_goals
      refine bodyPost_end (v := .tuple #[]) ?_ rfl ?_
      · simp [results, Try.results76, go_sem]
      refine ⟨rfl, (HH.out.swap i j HI.out HJ.out).no ((Fr.refl _ _).drew), ?_⟩
      exact (((Fr.refl (AtO (some g)) w).setCell (p := ⟨g, i, none⟩) (fun _ => rfl) _).setCell (p := ⟨g, j, none⟩) (fun _ => rfl) _).drew

set_option maxHeartbeats 4000000 in
theorem hpushm_any {B : Nat → Prop} {w : World} {p : Nat} {A : Option Addr} {c : Nat} {L : List Int} (h : HpS B w p A c L) (x : Int) (hn : L.length ≤ 1000000) :
    Calls Try.prog 75 #[.pointer (some ⟨p, 0, none⟩), .iface 3 (.int .i64 x)] w fun e w' => e = .returned (.tuple #[]) ∧ ∃ A' c', HpS B w' p A' c' (L ++ [x]) ∧ Fr (At2 p (Value.slice A L.length c).ownBlock) w w' := by
  have HH := Lib.hid h
  have c1 := h.cell
  have z1 := h.blk.frozen 0
  have hX : Hid (L.length + 1 ≤ maxLen ∧ (L.length + 1) * 8 ≤ 140737488355328) := by
    refine ⟨?_, ?_⟩ <;> (try simp only [maxLen]) <;> omega
  have hpl := h.blk.lt
  have hta : ∀ W : World, (Instr.typeAssert (.iface 3 (.int .i64 x)) 20 3 false).run Try.prog W = .ok (.int .i64 x) W := fun W => by kernel_rfl
  clear h hn
  go_enter Try.func75, Try.ntmps75
  go_wp2
  go_region_law (refine step_app _ rfl (.tmp 7) (.tmp 10) 40 40 rfl elR (HH.out.row.alloc _) rfl (Src.of_new (cs := #[.int .i64 x]) (t := 3) w.heap.size (heap_alloc_new w _) Try.underlying40 rfl (by simp [Value.oneCell'])) rfl hX.out.1 hX.out.2 ?_; intro v3 w3 hown3 hf3 hn3; obtain ⟨A3, c3, rfl, -, -⟩ := hown3.form; have hb3 := (HH.out.blk.alloc (.cells #[.int .i64 x] 3)).drew.fr hf3 (HH.out.row.ne_ HH.out.blk (by decide)); have k3 := hb3.cell 0; simp only [List.getElem?_toArray, List.getElem?_cons_zero] at k3; have z3 := hb3.frozen 0; have HB3 := Lib.hid hb3; clear hb3; have HO := Lib.hid hown3; have HF := Lib.hid hf3; have HN := Lib.hid hn3; clear hown3 hf3 hn3)
  all_goals
    refine bodyPost_end (v := .tuple #[]) ?_ rfl ?_
    · simp [results, Try.results75, go_sem]
    have hl : (L ++ [x]).length = L.length + 1 := by simp
    have ho : Own w3 3 1 (.slice A3 (L.length + 1) c3) (L.length + 1) (is_ (L ++ [x])) := by
      have h1 := HO.out
      rwa [show is_ L ++ (#[Value.int .i64 x] : Array Value).toList = is_ (L ++ [x]) by simp [is_]] at h1
    refine ⟨rfl, A3, c3, ⟨HH.out.lo, fun k hk => HH.out.up k (by rw [World.size_setCell] at hk; have h5 := HF.out.size; have h6 : (w.alloc (Obj.cells #[Value.int IntKind.i64 x] 3)).drew.heap.size = w.heap.size + 1 := World.size_alloc ..; omega), ?_, ?_, fun k hk => ?_⟩, ?_⟩
    · rw [hl]; exact HB3.out.set_ 0 _
    · rw [hl]; exact ho.setCell (p := ⟨p, 0, none⟩) (ho.ne_ HB3.out (by decide)) _
    · rw [hl] at hk
      rcases HN.out with e | e
      · exact HH.out.new k (e ▸ hk)
      · rw [e] at hk
        injection hk with hk
        have h3 : (w.alloc (Obj.cells #[Value.int IntKind.i64 x] 3)).drew.heap.size = w.heap.size + 1 := World.size_alloc ..
        exact HH.out.up k (by omega)
    · exact ((((Fr.refl (At2 p (Value.slice A L.length c).ownBlock) w).alloc _).drew).trans' HF.out (fun k hk _ => .inr hk)).setCell (p := ⟨p, 0, none⟩) (fun _ => .inl rfl) _

set_option maxHeartbeats 4000000 in
theorem hpopm_any {B : Nat → Prop} {w : World} {p : Nat} {A : Option Addr} {c : Nat} {L : List Int} {x : Int} (h : HpS B w p A c (L ++ [x])) :
    Calls Try.prog 74 #[.pointer (some ⟨p, 0, none⟩)] w fun e w' => e = .returned (.iface 3 (.int .i64 x)) ∧ HpS B w' p A c L ∧ Fr (At1 p) w w' := by
  have c1 := h.cell
  have z1 := h.blk.frozen 0
  have hle := h.le
  obtain ⟨g, rfl, hg1, hg2, c2, _⟩ := h.item L.length (by simp)
  have hx : at_ (L ++ [x]) L.length = x := by unfold at_; simp
  rw [hx] at c2
  have hl : (L ++ [x]).length = L.length + 1 := by simp
  have HL := Lib.hid hl
  rw [hl] at c1 hle
  have HH := Lib.hid h
  have hw : wrap64 (L.length : Int) = (L.length : Int) := by
    have := hle.1
    have h2 := hle.2
    simp only [maxLen] at h2
    unfold wrap64; omega
  have hle1 : (L.length : Int) ≤ (c : Int) := by omega
  have hle2 : L.length ≤ c := by omega
  have hl0 : (L.length : Int) < (L.length : Int) + 1 := by omega
  clear h hl hle hx
  go_enter Try.func74, Try.ntmps74
  go_wp2
  go_ret
  refine ⟨rfl, ⟨HH.out.lo, fun k hk => HH.out.up k (by rw [World.size_setCell] at hk; exact hk), ?_, ?_, ?_⟩, fr_set _ _ _ _⟩
  · exact HH.out.blk.set_ 0 (.slice (some ⟨g, 0, none⟩) L.length c)
  · have := own_cutL HH.out.row (k := L.length) (by simp)
    rw [is_cut] at this
    exact this.setCell (p := ⟨p, 0, none⟩) (by intro e; injection e with e; exact hg2 e) _
  · exact fun k hk => HH.out.new k hk
end Go.Proofs.Ytcjofakhefpfdaa
