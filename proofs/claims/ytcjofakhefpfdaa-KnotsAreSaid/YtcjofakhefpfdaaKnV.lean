/- spread. -/
import Derived.Test.YtcjofakhefpfdaaKnT
namespace Go.Proofs.Ytcjofakhefpfdaa
open Go.RowKit Go.My Go.Maps
set_option linter.unusedSimpArgs false
set_option linter.unusedVariables false
attribute [local go_sem ↓] Go.wp_at_zero Go.wp_at_succ

theorem SpM.begin {w w1 : World} {n : Nat} {st : List Int} {A : Option Addr} {c : Nat} (hn : n ≤ 1000000)
    (ho : Own w1 3 1 (.slice A st.length c) st.length (is_ st)) (hf : Fr No (w.alloc (.cells (zrow n (.bool false)).toArray 4)) w1) (hw : Newer (w.alloc (.cells (zrow n (.bool false)).toArray 4)).heap.size none (Value.slice A st.length c).ownBlock) :
    SpM w w1 n st [] A c none 0 where
  so := ho
  lo := Own.nil _ _ _
  bb := by
    rw [bo_nil]
    refine Own.fr (S := No) ?_ hf (fun _ _ h => h)
    exact ⟨by rw [zrow_length]; omega, .inr ⟨w.heap.size, n, _, rfl, heap_alloc_new w _, Nat.le_refl _, by simp only [maxLen]; omega, by simp [zrow_length], by rw [Nat.mul_one]; exact List.take_of_length_le (by simp [zrow_length])⟩⟩
  sn k hk := by
    rcases hw with e | ⟨i, e, hi⟩
    · rw [e] at hk; cases hk
    · rw [e] at hk
      injection hk with hk
      rw [World.size_alloc] at hi
      omega
  ln k hk := by cases hk
  ap k _ e := by cases e
  f := ((Fr.refl No w).alloc _).trans hf
/-- the stack's last -/
theorem SpM.top {w wr : World} {n : Nat} {st l : List Int} {v : Int} {A : Option Addr} {c : Nat} {B : Option Addr} {d : Nat} (h : SpM w wr n (st ++ [v]) l A c B d) : ∃ ad, A = some ad ∧ wr.cell? (ad.add st.length) = some (.int .i64 v) := by
  obtain ⟨ad, u, e, _, hu, hc⟩ := (h.so.rd).at_ (k := st.length) (by simp)
  rw [is_at _ _ (by simp)] at hu
  injection hu with hu
  subst hu
  refine ⟨ad, e, ?_⟩
  rw [hc]
  simp
theorem SpM.seen {w wr : World} {n : Nat} {st l : List Int} {A : Option Addr} {c : Nat} {B : Option Addr} {d : Nat} (h : SpM w wr n st l A c B d) {k : Nat} (hk : k < n) : wr.cell? ⟨w.heap.size, k, none⟩ = some (.bool (l.contains (k : Int))) ∧ wr.frozen? ⟨w.heap.size, k, none⟩ = false := by
  obtain ⟨ad, u, e, _, hu, hc⟩ := (h.bb.rd).at_ (k := k) hk
  rw [bo_at _ _ _ hk] at hu
  injection hu with hu
  subst hu
  injection e with e
  subst e
  rw [add_zero] at hc
  exact ⟨hc, (h.bb.store k hk (.bool true)).2.2⟩
set_option maxRecDepth 100000 in
set_option maxHeartbeats 2000000 in
theorem spread_any (w : World) (F F2 : Nat → Prop) (A B : Option Addr) (c c2 : Nat) (P : List (List Int)) (start : List Int) (hg : RdG w F A P) (hr : Rd w F2 1 B start.length (is_ start)) (hn : P.length ≤ 1000) (hm : ∀ k, (gat P k).length ≤ 100000000) (hp : Pl P)
    (hs : ∀ x ∈ start, 0 ≤ x ∧ x < P.length) (hsl : start.length ≤ 1000000) :
    Calls Try.prog 26 #[.slice A P.length c, .slice B start.length c2] w (RetX w (Led P start)) := by
  have HG := Lib.hid hg
  have HM := Lib.hid hm
  have HP := Lib.hid hp
  have HS := Lib.hid hs
  have hmk := fun W => run_make1 (P := Try.prog) elBo zeroBo rfl .i64 .i64 P.length (by omega) (by simp only [maxLen]; omega) W
  have HC : Hid (∀ W, Fr No w W → Calls Try.prog 32 #[.slice B start.length c2] W (RetOwn W 3 1 none start.length (is_ start))) := fun W hW => cloneI_any F2 B c2 start W (hr.fr (by omega) hW fun _ _ _ h => h) hsl
  have hfa : Fr No w (w.alloc (.cells (zrow P.length (.bool false)).toArray 4)) := (Fr.refl No w).alloc _
  clear hg hm hp hs hr
  go_enter Try.func26, Try.ntmps26
  go_wp2_with (go_at_call 32; refine (HC.out _ hfa).mono ?_; rintro _ w1 ⟨v1, rfl, ho1, hf1, hn1⟩; obtain ⟨A1, c1, rfl, -, -⟩ := ho1.form)
  have HB := Lib.hid (SpM.begin (w := w) (n := P.length) (by omega) ho1 (hf1.mono fun _ _ h => by cases h) hn1)
  clear ho1 hf1 hn1 hfa HC hmk
  go_loopw [6, 7] (fun sv lv wr => SpO w P start sv lv wr) (fun sv lv _ => 2 * (P.length - slen lv) + slen sv)
  case atStart => exact ⟨start, [], A1, c1, none, 0, SpC.begin P start, HB.out, rfl, rfl⟩
  case round =>
    obtain ⟨st, l, As, cs, Bl, dl, hC, hM, rfl, rfl⟩ := hrel
    have hll := nodup_le hC.nd fun x hx => (hC.led x hx).inR HP.out
    have hsl2 := hC.len
    rcases List.eq_nil_or_concat st with rfl | ⟨st0, v, rfl⟩
    · have HCC := Lib.hid hC
      have HMM := Lib.hid hM
      clear hC hM
      have hsort : ∀ W, Fr No wr W → Calls Try.prog 33 #[.slice Bl l.length dl] W fun e w' => e = .returned (.tuple #[]) ∧ Own w' 3 1 (.slice Bl l.length dl) l.length (is_ (sortI l)) ∧ Fr No w w' := fun W hW => by
        have hown := HMM.out.lo.fr hW fun _ _ h => h
        rcases l with _ | ⟨a, l⟩
        · refine (AnyM.slices_Sort_int_none Try.sortI Bl dl W).mono ?_
          rintro e w' ⟨rfl, rfl⟩
          have hz : sortI [] = [] := List.eq_nil_of_length_eq_zero (by rw [sortI_len]; rfl)
          rw [hz]
          exact ⟨rfl, hown, HMM.out.f.trans hW⟩
        · obtain ⟨g, c', cur, hv, hblk, -⟩ := hown.formPos (by simp)
          injection hv with hA _ hc
          subst hA hc
          refine (sortI_any (a :: l) g dl W hown (by simp only [List.length_cons] at hll ⊢; omega)).mono ?_
          rintro e w' ⟨rfl, ho, hf⟩
          refine ⟨rfl, ho, (HMM.out.f.trans hW).trans' hf fun k hk hlt => ?_⟩
          have hk2 : k = g := hk
          have := HMM.out.ln k (by subst hk2; rfl)
          omega
      have HSO := Lib.hid hsort
      clear hsort
      go_wp2_with (go_at_call 33; refine (HSO.out _ (Fr.refl _ _)).mono ?_; rintro _ w2 ⟨rfl, ho2, hf2⟩)
      go_ret
      refine ⟨sortI l, sortI_up HCC.out.nd, fun x => (sortI_mem x).trans (HCC.out.all x), .slice Bl l.length dl, rfl, by rw [sortI_len]; exact ho2, hf2.mono (fun _ _ h => h.elim), ?_⟩
      cases Bl with
      | none => exact .inl rfl
      | some ad => exact .inr ⟨ad.block, rfl, HMM.out.ln _ rfl⟩
    · rw [List.concat_eq_append] at *
      have hI := hC.pop
      have hv : 0 ≤ v ∧ v < P.length := by
        rcases hI.at_ with h | h
        · exact HS.out v h
        · exact (hI.led v h).inR HP.out
      obtain ⟨kv, rfl⟩ : ∃ kv : Nat, v = (kv : Int) := ⟨v.toNat, by omega⟩
      have hkv : kv < P.length := by omega
      obtain ⟨ad, rfl, htop⟩ := hM.top
      obtain ⟨adp, Ar, cr, rfl, hc0, hrow, hlc, hcm⟩ := HG.out.at_ kv hkv
      have hcp := hM.f.cell_some hc0 (fun h => h)
      rw [← gat_at hkv] at hcp hrow hlc
      have hmr := HM.out kv
      have HI := Lib.hid hI
      have HMM := Lib.hid hM.pop
      have hcs : st0.length ≤ cs := by
        obtain ⟨_, _, e, h1, -⟩ := hM.pop.so.form
        injection e with _ _ e
        omega
      have HROW : Hid (∀ W, Fr No w W → Rd W F 1 Ar (gat P kv).length (is_ (gat P kv))) := fun W hW => hrow.fr (by decide) hW (fun _ _ _ h => h)
      have hlen0 : (st0 ++ [(kv : Int)]).length = st0.length + 1 := by simp
      rw [hlen0] at hsl2 ⊢
      have hst : (st0.length : Int) ≤ 1002000 := by omega
      clear hI hC hM hv hrow hc0 hlen0 hsl2
      go_wp2
      generalize wr = wo at *
      go_loopw [6, 7, 35] (fun sv lv jv wr => SpN w P start kv (2 * (P.length - l.length) + st0.length) sv lv jv wr) (fun _ _ jv _ => (gat P kv).length - (intOf jv).toNat)
      case atStart => exact ⟨st0, l, some ad, cs, Bl, dl, 0, HI.out, HMM.out, rfl, rfl, rfl, Nat.zero_le _, Nat.le_refl _⟩
      case round =>
        clear HI HMM htop hst hll hcs
        obtain ⟨st, l2, As, cs2, Bl2, dl2, j, hI, hM, rfl, rfl, rfl, hj, hle⟩ := hrel
        have hll := nodup_le hI.nd fun x hx => (hI.led x hx).inR HP.out
        have hst := hI.len
        by_cases hlj : j < (gat P kv).length
        · obtain ⟨ad2, u, rfl, _, hu, hx⟩ := (HROW.out wr hM.f).at_ hlj
          rw [is_at _ j hlj] at hu
          injection hu with hu
          subst hu
          obtain ⟨h0, h1⟩ := HP.out kv _ (List.getElem_mem hlj)
          obtain ⟨kx, hkx⟩ : ∃ kx : Nat, (gat P kv)[j] = (kx : Int) := ⟨(gat P kv)[j].toNat, by omega⟩
          have hkn : kx < P.length := by omega
          have hsk := fun h => SpI.skip (v := (kv : Int)) hI hlj h
          have hpu := fun h => SpI.push (v := (kv : Int)) hI hlj h
          change (gat P kv)[j] ∈ l2 → _ at hsk
          change (gat P kv)[j] ∉ l2 → SpI P start (st ++ [(gat P kv)[j]]) (l2 ++ [(gat P kv)[j]]) (kv : Int) (j + 1) at hpu
          rw [hkx] at hx hsk hpu
          obtain ⟨hsc, hsf⟩ := hM.seen hkn
          have HMM := Lib.hid hM
          clear h0 h1 hkx
          by_cases hin : (kx : Int) ∈ l2
          · rw [show l2.contains (kx : Int) = true from List.contains_iff_mem.2 hin] at hsc
            have HI2 := Lib.hid (hsk hin)
            clear hsk hpu hI hM hin
            go_wp2
            go_roundw
            case rel => exact ⟨st, l2, As, cs2, Bl2, dl2, j + 1, HI2.out, HMM.out, rfl, rfl, by go_num, by omega, hle⟩
            case measure => simp [intOf]; omega
          · rw [show l2.contains (kx : Int) = false from by simpa using hin] at hsc
            have HI2 := Lib.hid (hpu hin)
            have hl3 := nodup_le HI2.out.nd fun x hx => (HI2.out.led x hx).inR HP.out
            rw [List.length_append, List.length_singleton] at hl3
            obtain ⟨cur, hcur⟩ := hM.bb.blk w.heap.size rfl
            have sne : (Value.slice As st.length cs2).ownBlock ≠ some w.heap.size := hM.so.ne_ hcur (by decide)
            have lne : (Value.slice Bl2 l2.length dl2).ownBlock ≠ some w.heap.size := hM.lo.ne_ hcur (by decide)
            have HS1 : Hid (Own (wr.setCell ⟨w.heap.size, kx, none⟩ (.bool true)) 3 1 (.slice As st.length cs2) st.length (is_ st)) := hM.so.setCell (p := ⟨w.heap.size, kx, none⟩) sne _
            have HL1 : Hid (Own (wr.setCell ⟨w.heap.size, kx, none⟩ (.bool true)) 3 1 (.slice Bl2 l2.length dl2) l2.length (is_ l2)) := hM.lo.setCell (p := ⟨w.heap.size, kx, none⟩) lne _
            have HAP := Lib.hid hM.ap
            have hst2 : (st.length : Int) ≤ 1002000 := by omega
            have hll2 : (l2.length : Int) ≤ 1002000 := by omega
            have HLE := Lib.hid hle
            clear hsk hpu hI hM hin cur hcur sne lne hst hle hll
            go_wp2_with (first
              | (at_builtin; refine wpList_app _ rfl (.tmp 47) (.tmp 49) 26 26 rfl elI (HS1.out.alloc (.cells #[.int .i64 (kx : Int)] 3)) rfl (Src.of_new (cs := #[.int .i64 (kx : Int)]) (t := 3) wr.heap.size (by have := heap_alloc_new (wr.setCell ⟨w.heap.size, kx, none⟩ (.bool true)) (.cells #[.int .i64 (kx : Int)] 3); rwa [World.size_setCell] at this) Try.underlying26 rfl (by simp [Value.oneCell'])) rfl (by simp only [maxLen]; omega) (by omega) ?_; intro v3 w3 ho3 hf3 hn3; obtain ⟨A3, c3, rfl, -, -⟩ := ho3.form; have HL2 := (HL1.out.alloc (.cells #[.int .i64 (kx : Int)] 3)).fr hf3 (fun i hi hS => HAP.out i hS hi))
              | (at_builtin; refine wpList_app _ rfl (.tmp 51) (.tmp 53) 26 26 rfl elI (HL2.alloc (.cells #[.int .i64 (kx : Int)] 3)) rfl (Src.of_new (cs := #[.int .i64 (kx : Int)]) (t := 3) w3.heap.size (heap_alloc_new w3 _) Try.underlying26 rfl (by simp [Value.oneCell'])) rfl (by simp only [maxLen]; omega) (by omega) ?_; intro v4 w4 ho4 hf4 hn4; obtain ⟨A4, c4, rfl, -, -⟩ := ho4.form))
            have HM2 := Lib.hid (SpM.push HMM.out hkn ho3 hf3 hn3 ho4 hf4 hn4)
            clear ho3 hf3 hn3 ho4 hf4 hn4 HL2
            go_wp2
            go_roundw
            case rel => exact ⟨st ++ [(kx : Int)], l2 ++ [(kx : Int)], A3, c3, A4, c4, j + 1, HI2.out, HM2.out, by rw [List.length_append]; rfl, by rw [List.length_append]; rfl, by go_num, by omega, by have := HLE.out; simp only [List.length_append, List.length_singleton]; omega⟩
            case measure => simp [intOf]; omega
        · obtain rfl : j = (gat P kv).length := by omega
          have HCC := Lib.hid (SpI.done (v := (kv : Int)) hI)
          have HMM := Lib.hid hM
          clear hI hM
          go_wp2
          go_roundw
          case rel => exact ⟨st, l2, As, cs2, Bl2, dl2, HCC.out, HMM.out, rfl, rfl⟩
          case measure => simp only [slen]; omega
end Go.Proofs.Ytcjofakhefpfdaa
