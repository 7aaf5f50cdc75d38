/- What undoes legs, and whether legs are the same: the program's and the document's own. -/
import Derived.Test.YtpaeohmoecdniabVouLg
import Derived.Test.YtpaeohmoecdniabVouN
namespace Go.Proofs.Ytpaeohmoecdniab
open Go.RowKit Go.My Go.Maps
set_option linter.unusedSimpArgs false
set_option linter.unusedVariables false
attribute [local go_sem ↓] Go.wp_at_zero Go.wp_at_succ

theorem lg_get (w : World) {F : Nat → Prop} {A : Option Addr} {L : List Lg} (h : Rd w F 2 A L.length (lgs L)) (hok : ∀ g ∈ L, g.ok) (k : Nat) (hk : k < L.length) :
    ∃ ad, A = some ad ∧ F ad.block ∧ L[k].ok ∧ w.cell? (ad.add (k * 2)) = some (.string L[k].acct) ∧ w.cell? ⟨(ad.add (k * 2)).block, (ad.add (k * 2)).off + 1, none⟩ = some (.int .i64 L[k].sum) := lg_at h (lgs_each L hok) k hk hk

/-- handed back: legs in a row of the call's own, and an error -/
def RetLs (w : World) (L : List Lg) (er : Int) (e : Ending) (w' : World) : Prop :=
  ∃ v, e = .returned (.tuple #[v, .int .i64 er]) ∧ Own w' 47 2 v L.length (lgs L) ∧ Fr No w w' ∧ Newer w.heap.size none v.ownBlock
theorem RetLs.nil {w w' : World} (hf : Fr No w w') (er : Int) : RetLs w [] er (.returned (.tuple #[.slice none 0 0, .int .i64 er])) w' := ⟨_, rfl, Own.nil _ _ _, hf, .inl rfl⟩

theorem negL_take {L : List Lg} {k : Nat} (hk : k < L.length) : negL (L.take (k + 1)) = negL (L.take k) ++ [⟨L[k].acct, -L[k].sum⟩] := by
  unfold negL
  rw [List.take_succ_eq_append_getElem hk, List.map_append]
  rfl
theorem mirr_bad {L : List Lg} {k : Nat} (hk : k < L.length) (h : L[k].sum = -9223372036854775808) : mirrE L = 2 ∧ mirrL L = [] := by
  have e : mirrE L = 2 := by
    unfold mirrE
    rw [if_neg]
    intro hall
    have := List.all_eq_true.1 hall _ (List.getElem_mem hk)
    exact of_decide_eq_true this h
  exact ⟨e, by unfold mirrL; rw [e, if_neg (by decide)]⟩
theorem mirr_ok {L : List Lg} (h : ∀ g ∈ L, g.sum ≠ -9223372036854775808) : mirrE L = 0 ∧ mirrL L = negL L := by
  have e : mirrE L = 0 := by
    unfold mirrE
    rw [if_pos (List.all_eq_true.2 fun g hg => decide_eq_true (h g hg))]
  exact ⟨e, by unfold mirrL; rw [e, if_pos rfl]⟩
def MiRel (w : World) (L : List Lg) (lv iv : Value) (wr : World) : Prop :=
  ∃ k : Nat, k ≤ L.length ∧ iv = .int .i64 k ∧ Own wr 47 2 lv k (lgs (negL (L.take k))) ∧ Fr No w wr ∧ Newer w.heap.size none lv.ownBlock ∧ ∀ g ∈ L.take k, g.sum ≠ -9223372036854775808
theorem mi_next {L : List Lg} {k : Nat} (hk : k < L.length) (h : ∀ g ∈ L.take k, g.sum ≠ -9223372036854775808) (h0 : L[k].sum ≠ -9223372036854775808) : ∀ g ∈ L.take (k + 1), g.sum ≠ -9223372036854775808 := fun g hg => by
  rw [List.take_succ_eq_append_getElem hk, List.mem_append, List.mem_singleton] at hg
  rcases hg with hg | rfl
  · exact h g hg
  · exact h0
theorem negL_length (L : List Lg) : (negL L).length = L.length := by simp [negL]

set_option maxRecDepth 100000 in
set_option maxHeartbeats 2000000 in
theorem mirror_any (F : Nat → Prop) (A : Option Addr) (c : Nat) (L : List Lg) (w : World) (hr : Rd w F 2 A L.length (lgs L)) (hok : ∀ g ∈ L, g.ok) (hL : L.length ≤ 100) :
    Calls Try.prog 18 #[.slice A L.length c] w (RetLs w (mirrL L) (mirrE L)) := by
  have HR := Lib.hid hr
  have HOK := Lib.hid hok
  have HNB : Hid (∀ (W : World) o cs, ((W.alloc o).alloc (.cells cs 47)).heap[W.heap.size + 1]? = some (.cells cs 47 (0, 0))) := fun W o cs => by
    have := heap_alloc_new (W.alloc o) (.cells cs 47)
    rw [World.size_alloc] at this
    exact this
  clear hr hok
  go_enter Try.func18, Try.ntmps18
  go_wp2
  go_loopw [4, 11] (fun lv iv wr => MiRel w L lv iv wr) (fun _ iv _ => L.length - (intOf iv).toNat)
  case atStart => exact ⟨0, Nat.zero_le _, rfl, Own.nil _ _ _, Fr.refl _ _, .inl rfl, fun g hg => by simp at hg⟩
  case round =>
    obtain ⟨k, hk, rfl, hown, hfr, hnew, hno⟩ := hrel
    by_cases hlt : k < L.length
    · obtain ⟨ad, rfl, _, hgok, q0, q1⟩ := lg_get _ (HR.out.fr (by omega) hfr fun _ _ _ h => h) HOK.out k hlt
      have HBAD : Hid (L[k].sum = -9223372036854775808 → mirrE L = 2 ∧ mirrL L = []) := mirr_bad hlt
      have HNX : Hid (L[k].sum ≠ -9223372036854775808 → ∀ g ∈ L.take (k + 1), g.sum ≠ -9223372036854775808) := mi_next hlt hno
      have E : Hid (lgs (negL (L.take (k + 1))) = lgs (negL (L.take k)) ++ [.string L[k].acct, .int .i64 (-L[k].sum)]) := by
        show _ = _
        rw [negL_take hlt, lgs_append]
        rfl
      have hX : Hid (k + 1 ≤ maxLen ∧ (k + 1) * 24 ≤ 140737488355328) := by
        refine ⟨?_, ?_⟩ <;> (try simp only [maxLen]) <;> omega
      generalize L[k] = g at *
      obtain ⟨nm, sm⟩ := g
      unfold Lg.ok at hgok
      simp only at q0 q1 E hgok HBAD HNX
      have HOWN := Lib.hid hown
      have HFR := Lib.hid hfr
      have HNEW := Lib.hid hnew
      have HS64 := Lib.hid hgok.2
      have HLS := Lib.hid (fun W => less_any 0 sm W (by unfold In64; omega) hgok.2)
      clear hown hfr hnew hno hgok
      by_cases hmin : sm = -9223372036854775808
      · have HE := Lib.hid (HBAD.out hmin)
        subst hmin
        go_wp2_with fail
        refine (HLS.out _).mono ?_
        rintro e w3 ⟨rfl, rfl⟩
        rw [two64_out (by unfold In64; omega)]
        go_wp2
        go_ret2
        rw [HE.out.1, HE.out.2]
        exact RetLs.nil (HFR.out.alloc _) 2
      · have HN := Lib.hid (HNX.out hmin)
        have hin : In64 (0 - sm) := by have h := HS64.out; unfold In64 at h ⊢; omega
        have HIN := Lib.hid hin
        clear hmin hin HNX HBAD
        go_wp2_with fail
        refine (HLS.out _).mono ?_
        rintro e w3 ⟨rfl, rfl⟩
        rw [two64_in HIN.out]
        obtain ⟨z, hz⟩ : ∃ z, (0 : Int) - sm = z := ⟨_, rfl⟩
        rw [hz]
        have HZ : Hid (-sm = z) := by show _ = _; omega
        rw [HZ.out] at E
        clear hz
        go_wp2_with (at_builtin; refine wpList_app _ rfl (.tmp 24) (.tmp 29) 23 23 rfl elL ((HOWN.out.alloc _).alloc _) rfl (Src.of_new (wr.heap.size + 1) (HNB.out _ _ _) Try.underlying23 rfl (by simp [Value.oneCell'])) rfl hX.out.1 hX.out.2 ?_; intro v1 w3 hown3 hfr3 hnew3)
        go_roundw
        case rel =>
          refine ⟨k + 1, by omega, by go_num, ?_, ?_, ?_, HN.out⟩
          · rw [E.out]
            exact hown3
          · exact fr_no ((HFR.out.alloc _).alloc _) HNEW.out hfr3
          · exact HNEW.out.trans (Newer.of hnew3) (by have := HFR.out.size; simp; omega)
        case measure => simp [intOf]; omega
    · obtain rfl : k = L.length := by omega
      rw [List.take_length] at hown hno
      have HE := Lib.hid (mirr_ok hno)
      obtain ⟨A4, c4, rfl, _, _⟩ := hown.form
      have HRT : Hid (RetLs w (negL L) 0 (.returned (.tuple #[.slice A4 L.length c4, .int .i64 0])) wr) := ⟨_, rfl, by rw [negL_length]; exact hown, hfr, hnew⟩
      clear hown hno hfr hnew
      go_wp2
      go_ret2
      rw [HE.out.1, HE.out.2]
      exact HRT.out

set_option maxRecDepth 100000 in
set_option maxHeartbeats 2000000 in
theorem refmirror_any (F : Nat → Prop) (A : Option Addr) (c : Nat) (L : List Lg) (w : World) (hr : Rd w F 2 A L.length (lgs L)) (hok : ∀ g ∈ L, g.ok) (hL : L.length ≤ 100) :
    Calls Try.prog 19 #[.slice A L.length c] w (RetLs w (mirrL L) (mirrE L)) := by
  have HR := Lib.hid hr
  have HOK := Lib.hid hok
  have HNB : Hid (∀ (W : World) cs, (W.alloc (.cells cs 47)).heap[W.heap.size]? = some (.cells cs 47 (0, 0))) := fun W cs => heap_alloc_new W _
  clear hr hok
  go_enter Try.func19, Try.ntmps19
  go_wp2
  go_loopw [4, 5] (fun lv iv wr => MiRel w L lv iv wr) (fun _ iv _ => L.length - (intOf iv).toNat)
  case atStart => exact ⟨0, Nat.zero_le _, rfl, Own.nil _ _ _, Fr.refl _ _, .inl rfl, fun g hg => by simp at hg⟩
  case round =>
    obtain ⟨k, hk, rfl, hown, hfr, hnew, hno⟩ := hrel
    by_cases hlt : k < L.length
    · obtain ⟨ad, rfl, _, hgok, q0, q1⟩ := lg_get _ (HR.out.fr (by omega) hfr fun _ _ _ h => h) HOK.out k hlt
      have HBAD : Hid (L[k].sum = -9223372036854775808 → mirrE L = 2 ∧ mirrL L = []) := mirr_bad hlt
      have HNX : Hid (L[k].sum ≠ -9223372036854775808 → ∀ g ∈ L.take (k + 1), g.sum ≠ -9223372036854775808) := mi_next hlt hno
      have E : Hid (lgs (negL (L.take (k + 1))) = lgs (negL (L.take k)) ++ [.string L[k].acct, .int .i64 (-L[k].sum)]) := by
        show _ = _
        rw [negL_take hlt, lgs_append]
        rfl
      have hX : Hid (k + 1 ≤ maxLen ∧ (k + 1) * 24 ≤ 140737488355328) := by
        refine ⟨?_, ?_⟩ <;> (try simp only [maxLen]) <;> omega
      have HQ0 : Hid (∀ W, Fr No wr W → W.cell? (ad.add (k * 2)) = some (.string L[k].acct)) := fun W hW => hW.cell_some q0 (fun h => h)
      generalize L[k] = g at *
      obtain ⟨nm, sm⟩ := g
      unfold Lg.ok at hgok
      simp only at q0 q1 E hgok HBAD HNX HQ0
      have HOWN := Lib.hid hown
      have HFR := Lib.hid hfr
      have HNEW := Lib.hid hnew
      have HS64 := Lib.hid hgok.2
      have HLS := Lib.hid (refless_any 0 sm wr (by unfold In64; omega) hgok.2)
      clear hown hfr hnew hno hgok q0
      by_cases hmin : sm = -9223372036854775808
      · have HE := Lib.hid (HBAD.out hmin)
        subst hmin
        go_wp2_with fail
        refine HLS.out.mono ?_
        rintro e w3 ⟨rfl, hb3⟩
        have HF3 := Lib.hid (HFR.out.trans (Fr.of_below hb3 _))
        clear hb3
        rw [two64_out (by unfold In64; omega)]
        go_wp2
        go_ret2
        rw [HE.out.1, HE.out.2]
        exact RetLs.nil HF3.out 2
      · have HN := Lib.hid (HNX.out hmin)
        have hin : In64 (0 - sm) := by have h := HS64.out; unfold In64 at h ⊢; omega
        have HIN := Lib.hid hin
        clear hmin hin HNX HBAD
        go_wp2_with fail
        refine HLS.out.mono ?_
        rintro e w3 ⟨rfl, hb3⟩
        have hf3 : Fr No wr w3 := Fr.of_below hb3 _
        have q0 := HQ0.out w3 hf3
        have HF3 := Lib.hid hf3
        have HOW3 := Lib.hid (HOWN.out.fr hf3 (fun _ _ h => h))
        clear hf3 hb3
        rw [two64_in HIN.out]
        obtain ⟨z, hz⟩ : ∃ z, (0 : Int) - sm = z := ⟨_, rfl⟩
        rw [hz]
        have HZ : Hid (-sm = z) := by show _ = _; omega
        rw [HZ.out] at E
        clear hz
        go_wp2_with (at_builtin; refine wpList_app _ rfl (.tmp 26) (.tmp 34) 23 23 rfl elL (HOW3.out.alloc _) rfl (Src.of_new w3.heap.size (HNB.out _ _) Try.underlying23 rfl (by simp [Value.oneCell'])) rfl hX.out.1 hX.out.2 ?_; intro v1 w4 hown4 hfr4 hnew4)
        go_roundw
        case rel =>
          refine ⟨k + 1, by omega, by go_num, ?_, ?_, ?_, HN.out⟩
          · rw [E.out]
            exact hown4
          · exact fr_no ((HFR.out.trans HF3.out).alloc _) HNEW.out hfr4
          · exact HNEW.out.trans (Newer.of hnew4) (by have h1 := HFR.out.size; have h2 := HF3.out.size; simp; omega)
        case measure => simp [intOf]; omega
    · obtain rfl : k = L.length := by omega
      rw [List.take_length] at hown hno
      have HE := Lib.hid (mirr_ok hno)
      obtain ⟨A4, c4, rfl, _, _⟩ := hown.form
      have HRT : Hid (RetLs w (negL L) 0 (.returned (.tuple #[.slice A4 L.length c4, .int .i64 0])) wr) := ⟨_, rfl, by rw [negL_length]; exact hown, hfr, hnew⟩
      clear hown hno hfr hnew
      go_wp2
      go_ret2
      rw [HE.out.1, HE.out.2]
      exact HRT.out

instance : DecidableEq Lg := fun a b =>
  if h : a.acct = b.acct ∧ a.sum = b.sum then isTrue (by cases a; cases b; simp_all) else isFalse fun e => h (by subst e; exact ⟨rfl, rfl⟩)
theorem neq_lg (a b : Lg) (W : World) (h : a ≠ b) : (binOp .neq 47 (.agg #[.string a.acct, .int .i64 a.sum]) (.agg #[.string b.acct, .int .i64 b.sum])).run Try.prog W = .ok (.bool true) W := by
  have key : a.acct = b.acct → ¬ a.sum = b.sum := fun h1 h2 => h (by cases a; cases b; simp_all)
  simp [go_sem]
  intro h1
  exact key (ByteArray.ext (by simpa [ByteArray.toList_eq] using h1))
def SameLRel (S T : List Lg) (w : World) (i : Value) (wr : World) : Prop :=
  ∃ k j : Nat, k ≤ S.length ∧ i = .int .i64 k ∧ S.take k = T.take k ∧ wr = w.drewN j

set_option maxRecDepth 100000 in
set_option maxHeartbeats 1000000 in
theorem sameL_any (F G : Nat → Prop) (A B : Option Addr) (c d : Nat) (S T : List Lg) (w : World) (hl : Rd w F 2 A S.length (lgs S)) (hr : Rd w G 2 B T.length (lgs T)) (hS : ∀ g ∈ S, g.ok) (hT : ∀ g ∈ T, g.ok) (hsz : S.length ≤ 1000000000) :
    Calls Try.prog 20 #[.slice A S.length c, .slice B T.length d] w fun e w' => e = .returned (.bool (decide (S = T))) ∧ ∃ n, w' = w.drewN n := by
  by_cases hlen : S.length = T.length
  · have hz : ((S.length : Int) != (T.length : Int)) = false := by rw [bne_eq_false_iff_eq]; omega
    have HL := Lib.hid hlen
    have HA := Lib.hid hl
    have HB := Lib.hid hr
    have HS := Lib.hid hS
    have HT := Lib.hid hT
    clear hlen hl hr hS hT
    go_enter Try.func20, Try.ntmps20
    go_wp2
    go_loopw [5] (fun a wr => SameLRel S T w a wr) (fun a _ => S.length - (intOf a).toNat)
    case atStart => exact ⟨0, 0, Nat.zero_le _, rfl, rfl, rfl⟩
    case round =>
      obtain ⟨k, j, hk, rfl, heq, rfl⟩ := hrel
      have HE := Lib.hid heq
      clear heq
      by_cases hlt : k < S.length
      · have hlt2 : k < T.length := by have := HL.out; omega
        obtain ⟨ad, rfl, _, _, p0, p1⟩ := lg_get _ HA.out HS.out k hlt
        obtain ⟨bd, rfl, _, _, q0, q1⟩ := lg_get _ HB.out HT.out k hlt2
        have e1 : S.take (k + 1) = S.take k ++ [S[k]] := List.take_succ_eq_append_getElem hlt
        have e2 : T.take (k + 1) = T.take k ++ [T[k]] := List.take_succ_eq_append_getElem hlt2
        by_cases hxy : S[k] = T[k]
        · have E : Hid (S.take (k + 1) = T.take (k + 1)) := by show _ = _; rw [e1, e2, HE.out, hxy]
          rw [← hxy] at q0 q1
          clear e1 e2 hxy
          generalize S[k].acct = n1 at *
          generalize S[k].sum = v1 at *
          go_wp2
          go_quiet (fail)
          go_wp2
          go_roundw
          case rel => exact ⟨k + 1, _, by omega, by go_num, E.out, rfl⟩
          case measure => simp [intOf]; omega
        · have E : Hid (S ≠ T) := by
            intro h
            subst h
            exact hxy rfl
          have hne := fun W => neq_lg S[k] T[k] W hxy
          clear e1 e2 hxy
          generalize S[k].acct = n1 at *
          generalize S[k].sum = v1 at *
          generalize T[k].acct = m1 at *
          generalize T[k].sum = u1 at *
          go_wp2
          go_quiet (fail)
          go_wp2
          go_ret
          exact ⟨by rw [decide_eq_false E.out]; rfl, _, World.drewN_drewN _ _ _⟩
      · have : k = S.length := by omega
        subst this
        go_wp2
        go_ret
        have h1 := HE.out
        rw [List.take_length, HL.out, List.take_length] at h1
        exact ⟨by rw [decide_eq_true h1]; rfl, _, rfl⟩
  · have hz : ((S.length : Int) != (T.length : Int)) = true := by rw [bne_iff_ne]; omega
    have HL := Lib.hid hlen
    clear hlen hl hr
    go_enter Try.func20, Try.ntmps20
    go_wp2
    go_ret
    exact ⟨by rw [decide_eq_false (fun h => HL.out (by rw [h]))]; rfl, 0, rfl⟩
end Go.Proofs.Ytpaeohmoecdniab
