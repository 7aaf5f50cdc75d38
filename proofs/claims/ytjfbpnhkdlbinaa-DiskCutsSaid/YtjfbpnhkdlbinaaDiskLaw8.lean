/- The laws of package disk, as walks: DiskCuts. -/
import Derived.Test.YtjfbpnhkdlbinaaDiskLaw6
import Derived.Deep.RegionHeld3
import Derived.Deep.DrawnRows
namespace Go.Proofs.Ytjfbpnhkdlbinaa
open Go.RowKit Go.My
set_option linter.unusedSimpArgs false
set_option linter.unusedVariables false
attribute [local go_sem ↓] Go.wp_at_zero Go.wp_at_succ

/-- the disk, and all that it had at first, which lies in a block of its own that is not the disk's -/
def CutSt (w3 : World) (p : Nat) (b : List UInt8) (A : Option Addr) (c : Nat) (s : DSt) (w : World) : Prop :=
  ∃ g, DkS w p g 5000 s ∧ Own w 5 1 (.slice A b.length c) b.length (bs b) ∧ Fr (At1 p) w3 w ∧ Newer w3.heap.size none g ∧ (∀ i, (Value.slice A b.length c).ownBlock = some i → i ≠ p ∧ g ≠ some i)

section
variable {w3 w w' : World} {p : Nat} {b : List UInt8} {A : Option Addr} {c : Nat} {s s' : DSt} {g g' : Option Nat}
theorem CutSt.next (ho : Own w 5 1 (.slice A b.length c) b.length (bs b)) (hfr : Fr (At1 p) w3 w) (hng : Newer w3.heap.size none g) (hne : ∀ i, (Value.slice A b.length c).ownBlock = some i → i ≠ p ∧ g ≠ some i)
    (hd : DkS w' p g' 5000 s') (hf : Fr (At2 p g) w w') (hg : Newer w.heap.size g g') : CutSt w3 p b A c s' w' := by
  refine ⟨g', hd, ho.fr hf (fun i hi h => ?_), fr_p hfr hng hf, hng.trans hg hfr.size, fun i hi => ⟨(hne i hi).1, fun h => ?_⟩⟩
  · rcases h with h | h
    · exact (hne i hi).1 h
    · exact (hne i hi).2 h
  · have hl := ho.lt i hi
    rcases hg with rfl | ⟨k, rfl, hk⟩
    · exact (hne i hi).2 h
    · injection h with h; omega
theorem CutSt.quiet (h : CutSt w3 p b A c s w) (hf : Fr No w w') : CutSt w3 p b A c s w' := by
  obtain ⟨g, hd, ho, hfr, hng, hne⟩ := h
  exact ⟨g, Dk.fr hd hf (fun h => h) (fun _ _ h => h), ho.fr hf (fun _ _ h => h), hfr.trans (hf.mono fun _ _ h => False.elim h), hng, hne⟩
theorem CutSt.drewN (h : CutSt w3 p b A c s w) (n : Nat) : CutSt w3 p b A c s (w.drewN n) := h.quiet ((Fr.refl _ _).drewN n)
theorem CutSt.drew (h : CutSt w3 p b A c s w) : CutSt w3 p b A c s w.drew := h.quiet (Fr.refl _ _).drew
/-- what the first bytes are as a text -/
theorem CutSt.str (h : CutSt w3 p b A c s w) (j : Nat) (hj : j ≤ b.length) (n : Nat) : (convert 25 9 (.slice A j c)).run Try.prog (w.drewN n) = .ok (.string ⟨(b.take j).toArray⟩) (w.drewN n) := by
  obtain ⟨g, hd, ho, _⟩ := h
  have r2 : Rd w (Lt w.heap.size) 1 A j (bs (b.take j)) := by
    have := (rd_lt ho.rd (by omega)).take (k := j) hj
    rwa [Nat.mul_one, ← bs_take] at this
  exact run_str_of_bytes (P := Try.prog) (w := w.drewN n) (c := c) 25 9 5 Try.underlying25 Try.underlying5 Try.underlying9 (Rd.drewN r2 n)

def RetSt (v : Value) (w3 : World) (p : Nat) (b : List UInt8) (A : Option Addr) (c : Nat) (s : DSt) (e : Ending) (w' : World) : Prop := e = .returned v ∧ CutSt w3 p b A c s w'

theorem cut_st (h : CutSt w3 p b A c s w) (n : Int) : Calls Try.prog 52 #[.pointer (some ⟨p, 0, none⟩), .int .i64 n] w (RetSt (.int .i64 (cutE s.br n s.b.length : Int)) w3 p b A c (cutD s n)) := by
  obtain ⟨g, hd, ho, hfr, hng, hne⟩ := h
  refine (cut_at p g 5000 s.sure n s.b s.br w hd).mono ?_
  rintro e w6 ⟨rfl, g6, hd6, hf6, hg6⟩
  exact ⟨rfl, CutSt.next (s' := cutD s n) ho hfr hng hne hd6 hf6 hg6⟩
theorem sync_st (h : CutSt w3 p b A c s w) (hb : s.br = false) : Calls Try.prog 54 #[.pointer (some ⟨p, 0, none⟩)] w (RetSt (.int .i64 0) w3 p b A c ⟨s.b, s.b.length, false⟩) := by
  obtain ⟨g, hd, ho, hfr, hng, hne⟩ := h
  refine (sync_at p g 5000 s.sure s.b s.br w hd).mono ?_
  rintro e w6 ⟨rfl, g6, hd6, hf6, hg6⟩
  simp only [hb, Bool.false_eq_true, if_false] at hd6 ⊢
  exact ⟨rfl, CutSt.next ho hfr hng hne (s' := ⟨s.b, s.b.length, false⟩) hd6 hf6 hg6⟩
theorem break_st (h : CutSt w3 p b A c s w) : Calls Try.prog 48 #[.pointer (some ⟨p, 0, none⟩)] w (RetSt (.tuple #[]) w3 p b A c ⟨s.b, s.sure, true⟩) := by
  obtain ⟨g, hd, ho, hfr, hng, hne⟩ := h
  refine (break_at p g 5000 s.sure s.b s.br w hd).mono ?_
  rintro e w6 ⟨rfl, g6, hd6, hf6, hg6⟩
  exact ⟨rfl, CutSt.next ho hfr hng hne (s' := ⟨s.b, s.sure, true⟩) hd6 hf6 hg6⟩
theorem up_st (h : CutSt w3 p b A c s w) (hs : s.sure = s.b.length) : Calls Try.prog 49 #[.pointer (some ⟨p, 0, none⟩), .int .i64 0, .slice none 0 0] w (RetSt (.tuple #[]) w3 p b A c ⟨s.b, s.b.length, false⟩) := by
  obtain ⟨g, hd, ho, hfr, hng, hne⟩ := h
  refine (up_at p g 5000 s.sure s.b s.br 0 No none 0 [] w hd Rd.none_ (fun k h => False.elim h) (by simp) (fun s hs => by simp at hs)).mono ?_
  have hsp : spoilF s.sure (keptOf 0 (s.b.length - s.sure)) [] s.b = s.b := rfl
  have hk0 : keptOf 0 (s.b.length - s.sure) = 0 := by unfold keptOf; omega
  rw [hsp, hk0, Nat.add_zero, hs, List.take_length]
  rintro e w6 ⟨rfl, g6, hd6, hf6, hg6⟩
  exact ⟨rfl, CutSt.next ho hfr hng hne (s' := ⟨s.b, s.b.length, false⟩) hd6 hf6 hg6⟩
theorem sure_st (h : CutSt w3 p b A c s w) : Calls Try.prog 46 #[.pointer (some ⟨p, 0, none⟩)] w fun e w' => e = .returned (.int .i64 (s.sure : Int)) ∧ w = w' := by
  obtain ⟨g, hd, _⟩ := h
  exact sure_at p g 5000 s.sure s.b s.br w hd
/-- its bytes, and what they are as a text -/
theorem bytes_st (h : CutSt w3 p b A c s w) (m : Nat) (hm : s.b.length = m) : Calls Try.prog 45 #[.pointer (some ⟨p, 0, none⟩)] w fun e w' => ∃ A' c', e = .returned (.slice A' m c') ∧ CutSt w3 p b A c s w' ∧
    (∀ n, (convert 25 9 (.slice A' m c')).run Try.prog (w'.drewN n) = .ok (.string ⟨s.b.toArray⟩) (w'.drewN n)) ∧ (convert 25 9 (.slice A' m c')).run Try.prog w' = .ok (.string ⟨s.b.toArray⟩) w' := by
  subst hm
  have hS := h
  obtain ⟨g, hd, _⟩ := h
  refine (bytes_at p g 5000 s.sure s.b s.br w hd).mono ?_
  rintro e w5 ⟨v5, rfl, ho5, hf5, hn5⟩
  obtain ⟨A5, c5, rfl, hc5, hc5'⟩ := ho5.form
  have hall := fun n => run_str_of_bytes (P := Try.prog) (w := w5.drewN n) (c := c5) 25 9 5 Try.underlying25 Try.underlying5 Try.underlying9 (Rd.drewN ho5.rd n)
  exact ⟨A5, c5, rfl, hS.quiet (fr_at_none hf5), hall, hall 0⟩
/-- what was behind is appended again -/
theorem append_st (j k : Nat) (X : Option Addr) (hX : X = if c = j then A else A.map (·.add j)) (h : CutSt w3 p b A c ⟨b.take j, j, false⟩ w) (hj : j ≤ b.length) (hc : b.length ≤ c) (hb : b.length ≤ 5000) :
    Calls Try.prog 53 #[.pointer (some ⟨p, 0, none⟩), .slice X (b.length - j) k] w (RetSt (.int .i64 0) w3 p b A c ⟨b, j, false⟩) := by
  obtain ⟨g, hd, ho, hfr, hng, hne⟩ := h
  have hx := ho.rd.cut (k := j) hj hc
  rw [Nat.mul_one, ← hX] at hx
  have hbs : (bs b).drop j = bs (b.drop j) := by simp [bs]
  have hl : (b.drop j).length = b.length - j := by simp
  have htl : (b.take j).length = j := by simp; omega
  rw [hbs, ← hl] at hx
  have hap := append_at p g 5000 j (b.take j) false _ X k (b.drop j) w hd hx (by omega)
  rw [hl] at hap
  have he : appE false 5000 (b.take j).length (b.length - j) = 0 := by unfold appE; rw [if_neg (by simp), if_neg (by omega)]
  rw [he] at hap
  simp only [if_true, List.take_append_drop] at hap
  refine hap.mono ?_
  rintro e w6 ⟨rfl, g6, hd6, hf6, hg6⟩
  exact ⟨rfl, CutSt.next ho hfr hng hne (s' := ⟨b, j, false⟩) hd6 hf6 hg6⟩
end

set_option maxRecDepth 100000 in
set_option maxHeartbeats 0 in
theorem diskCuts_walk (A : Option Addr) (c : Nat) (cells : List Value) (l : List OpD) (n : Int) (w : World) 
    (rd : Rd w (Lt w.heap.size) 5 A l.length cells) (lc : l.length ≤ c) (cm : c ≤ maxLen) (hE : Each (RdOp w w.heap.size) 5 cells l) (hn : -9223372036854775808 ≤ n ∧ n ≤ 9223372036854775807) :
    Calls Try.prog 15 #[.slice A l.length c, .int .i64 n] w (RetTrue w) := by
  have HRD := Lib.hid rd
  have HEA := Lib.hid hE
  have HCM := Lib.hid cm
  obtain ⟨hr1, hr2⟩ := hn
  clear rd hE cm
  go_enter Try.func15, Try.ntmps15
  go_wp2_with fail
  refine (livesD _).mono ?_
  rintro e w1 ⟨rfl, hb1⟩
  have hs1 := hb1.size
  go_wp2_with fail
  refine (new_disk 5000 _ (by omega) (by omega)).mono ?_
  rintro e w2 ⟨p, rfl, hd2, hf2, hp⟩
  have hb2 : Below w.heap.size w w2 := below_fr_no hb1 hf2 hs1
  have hs2 := hb2.size
  have hd2' : DkS w2 p none 5000 ⟨[], 0, false⟩ := hd2
  clear hd2 hf2
  go_wp2_with fail
  refine (early_any w.heap.size (Lt w.heap.size) A c cells l w2 hs2 (HRD.out.below hb2 fun _ h => h) (Each.mono HEA.out fun _ _ h => h.below hb2) lc HCM.out).mono ?_
  rintro e w3 ⟨v3, cs3, rfl, ho3, he3, hf3, hn3⟩
  have hb3 : Below w.heap.size w w3 := below_fr_no hb2 hf3 hs2
  have hs3 := hb3.size
  have hd3 : DkS w3 p none 5000 ⟨[], 0, false⟩ := Dk.fr hd2' hf3 (fun h => h) (fun _ _ h => h)
  have hn3' := newer_none hn3
  obtain ⟨A3, c3, rfl, hc3, hc3'⟩ := ho3.form
  go_wp2_with fail
  have HRS := Lib.hid ho3.rd
  have HES := Lib.hid he3
  have hpw := hd2'.lt
  have hown : Hid (∀ k, (Value.slice A3 ((l.take 100).map truncD).length c3).ownBlock = some k → k ≠ p) := fun k hk => by have := hn3' k hk; omega
  have hfb2 : Hid (∀ W, Fr (At1 p) w3 W → Below w.heap.size w3 W) := fun W hW => hW.below_at hs3 fun k hk h => by simp only [At1] at h; omega
  have hfb : Hid (∀ W, Fr (At1 p) w3 W → Below w.heap.size w W) := fun W hW => hb3.trans (hfb2.out W hW)
  have hstart : ScrRel w3 p 5000 (fun _ _ => True) ((l.take 100).map truncD).length (.int .i64 0) w3 := ⟨0, _, none, Nat.zero_le _, rfl, hd3, Fr.refl _ _, .inl rfl, trivial⟩
  have htl : ((l.take 100).map truncD).length ≤ 100 := by simp; omega
  have hlm : min 100 l.length = ((l.take 100).map truncD).length := by simp
  rw [hlm]
  clear ho3 he3 hd3 hn3 hd2' hf3 hlm hc3'
  generalize (l.take 100).map truncD = T at *
  go_loopw [6] (fun a wr => ScrRel w3 p 5000 (fun _ _ => True) T.length a wr) (fun a _ => T.length - (intOf a).toNat)
  case atStart => exact hstart
  case round =>
    clear hstart
    obtain ⟨k, s, g, hk, rfl, hdk, hfr, hng, _⟩ := hrel
    by_cases hlt : k < T.length
    · obtain ⟨ad, A1, c1, A2, c2, A4, c4, rfl, ⟨hl1, hm1⟩, hQ⟩ := script_in HRS.out HES.out hown.out hfb2.out rfl k hlt
      have hm1' : c1 ≤ 9223372036854775807 := by simp only [maxLen] at hm1; omega
      clear hm1
      generalize T[k] = o at *
      obtain ⟨q0, q1, q2, q3, q4, hop⟩ := hQ wr hfr
      clear hQ
      go_wp2_with fail
      refine (does_at p g 5000 s _ o w.heap.size wr hdk hop (by omega) (fun k hk => by have := newer_none hng k hk; omega)).mono ?_
      rintro e w5 ⟨rfl, g5, hd5, hf5, hg5⟩
      have hend : Hid (ScrRel w3 p 5000 (fun _ _ => True) T.length (.int .i64 ((k : Int) + 1)) w5) := ⟨k + 1, doesD 5000 s o, g5, by omega, by go_num, hd5, fr_p hfr hng hf5, hng.trans hg5 hfr.size, trivial⟩
      clear q0 q1 q2 q3 q4 hop hf5 hg5 hd5 hdk
      go_wp2
      go_roundw
      case rel => exact hend.out
      case measure => simp [intOf]; omega
    · have hsle : s.sure ≤ s.b.length := by obtain ⟨_, _, _, _, _, _, h⟩ := hdk; exact h
      have hble : s.b.length ≤ 5000 := by obtain ⟨_, _, _, _, _, h, _⟩ := hdk; exact h
      go_wp2_with fail
      refine (up_at p g 5000 s.sure s.b s.br 0 No none 0 [] _ hdk Rd.none_ (fun k h => False.elim h) (by simp) (fun s hs => by simp at hs)).mono ?_
      have hsp : spoilF s.sure (keptOf 0 (s.b.length - s.sure)) [] s.b = s.b := rfl
      have hk0 : keptOf 0 (s.b.length - s.sure) = 0 := by unfold keptOf; omega
      rw [hsp, hk0, Nat.add_zero]
      rintro e w4 ⟨rfl, g4, hd4, hf4, hg4⟩
      have hfr4 := fr_p hfr hng hf4
      have hng4 : Newer w3.heap.size none g4 := hng.trans hg4 hfr.size
      have hlen : (s.b.take s.sure).length = s.sure := by simp; omega
      have hs5 : s.sure ≤ 5000 := by omega
      generalize s.b.take s.sure = b at *
      generalize s.sure = N at *
      clear hdk hfr hng hf4 hg4 hsle hble hsp hk0
      subst hlen
      go_wp2_with fail
      refine (bytes_at p g4 5000 b.length b false w4 hd4).mono ?_
      rintro e w5 ⟨v5, rfl, ho5, hf5, hn5⟩
      have hd5 : DkS w5 p g4 5000 ⟨b, b.length, false⟩ := Dk.fr hd4 (fr_at_none hf5) (fun h => h) (fun _ _ h => h)
      have hfr5 : Fr (At1 p) w3 w5 := hfr4.trans ((fr_at_none hf5).mono fun _ _ h => False.elim h)
      have hn5' := newer_none hn5
      obtain ⟨A5, c5, rfl, hc5, hc5'⟩ := ho5.form
      have hc5'' : c5 ≤ 9223372036854775807 := by simp only [maxLen] at hc5'; omega
      have hg4' := Dk.ltg hd4
      have hp4' := Dk.lt hd4
      clear hf5 hn5 hd4 hfr4
      obtain ⟨j, hj, hjl⟩ := umod n (b.length + 1) (by omega) (by omega)
      have hj' : wrap64 ((IntKind.u64.wrap n).tmod ((b.length : Int) + 1)) = (j : Int) := hj
      have hjb : j ≤ b.length := by omega
      have hst : CutSt w3 p b A5 c5 ⟨b, b.length, false⟩ w5 := ⟨g4, hd5, ho5, hfr5, hng4, fun i hi => by have := hn5' i hi; exact ⟨by omega, fun h => by have := hg4' i h; omega⟩⟩
      have hce : cutE false (j : Int) b.length = 0 := by unfold cutE; rw [if_neg (by simp), if_neg (by omega)]
      have hcs : cutD ⟨b, b.length, false⟩ (j : Int) = ⟨b.take j, j, false⟩ := by
        unfold cutD
        simp only [hce, if_true, Int.toNat_natCast]
      have HCUT := cut_st hst.drew (j : Int)
      rw [hcs] at HCUT
      simp only [hce] at HCUT
      have hjl' : (b.take j).length = j := by simp; omega
      have HC := Lib.hid HCUT
      clear HCUT hce hcs hd5 ho5 hfr5 hng4 hn5' hg4' hp4' hj
      have hds : Hid (∀ W, CutSt w3 p b A5 c5 ⟨b.take j, j, false⟩ W → (convert 25 9 (.slice A5 j c5)).run Try.prog W = .ok (.string ⟨(b.take j).toArray⟩) W) := fun W hW => hW.str j hjb 0
      have hs0 : (convert 25 9 (.slice A5 j c5)).run Try.prog w5.drew = .ok (.string ⟨(b.take j).toArray⟩) w5.drew := hst.str j hjb 1
      clear hst
      generalize htk : b.take j = str at *
      have HTK := Lib.hid htk
      have hss : (str != str) = false := by simp
      clear htk
      have hi1 : (0 : Int) ≤ (j : Int) := by omega
      have hi2 : (j : Int) ≤ (c5 : Int) := by omega
      have hi3 : (j : Int) ≤ (b.length : Int) := by omega
      go_upto_region 12 with (fail)
      rw [hj']
      go_cut [58] (fun s58 wx => s58 = .bool false ∧ CutSt w3 p b A5 c5 ⟨str, j, false⟩ wx)
      case first =>
        refine wp_region_held_drew (S := fun W => (convert 25 9 (.slice A5 j c5)).run Try.prog W = .ok (.string ⟨str.toArray⟩) W) (by kernel_rfl) ?_ (fun hH0 => ?_)
        · exact hs0
        refine wpAnyH_take (i := 0) (v := ?_) rfl (by kernel_rfl) (by kernel_rfl) (by kernel_rfl) (fun _ _ _ h => h) (Or.inl ⟨by rfl, ?_⟩) hH0 ?_
        rotate_left
        · (intro w hSw; (try dsimp only at hSw); go_simp; try with_reducible rfl)
        (try simp only [Act.put, List.getElem_toArray, List.getElem_cons_zero, List.getElem_cons_succ, List.setIfInBounds_toArray, List.set_cons_zero, List.set_cons_succ])
        refine wpAnyH_take (i := 1) (v := ?_) rfl (by kernel_rfl) (by kernel_rfl) (by kernel_rfl) (fun _ _ _ h => h) (Or.inl ⟨by rfl, ?_⟩) hH0 ?_
        rotate_left
        · (intro w hSw; (try dsimp only at hSw); go_simp; try with_reducible rfl)
        (try simp only [Act.put, List.getElem_toArray, List.getElem_cons_zero, List.getElem_cons_succ, List.setIfInBounds_toArray, List.set_cons_zero, List.set_cons_succ])
        refine wpAnyH_ready (rs := [2]) (by kernel_rfl) (by simp) ?_
        refine AllReadyH.cons rfl (fun K hK => ?_) AllReadyH.nil
        go_simp
        (with_reducible refine HC.out.mono ?_)
        rintro e w6 ⟨rfl, hst6⟩
        have hall6 := hds.out _ hst6
        refine hK.out _ _ ?_ (fun hH1 => ?_)
        · exact hall6
        clear hK K
        (try simp only [Act.put, List.getElem_toArray, List.getElem_cons_zero, List.getElem_cons_succ, List.setIfInBounds_toArray, List.set_cons_zero, List.set_cons_succ])
        refine wpAnyH_take (i := 3) (v := ?_) rfl (by kernel_rfl) (by kernel_rfl) (by kernel_rfl) (fun _ _ _ h => h) (Or.inl ⟨by rfl, ?_⟩) hH1 ?_
        rotate_left
        · (intro w hSw; (try dsimp only at hSw); go_simp; try with_reducible rfl)
        (try simp only [Act.put, List.getElem_toArray, List.getElem_cons_zero, List.getElem_cons_succ, List.setIfInBounds_toArray, List.set_cons_zero, List.set_cons_succ])
        refine wpAnyH_take (i := 4) (v := ?_) rfl (by kernel_rfl) (by kernel_rfl) (by kernel_rfl) (fun _ _ _ h => h) (Or.inl ⟨by rfl, ?_⟩) hH1 ?_
        rotate_left
        · (intro w hSw; (try dsimp only at hSw); go_simp; try with_reducible rfl)
        (try simp only [Act.put, List.getElem_toArray, List.getElem_cons_zero, List.getElem_cons_succ, List.setIfInBounds_toArray, List.set_cons_zero, List.set_cons_succ])
        refine wpAnyH_take (i := 5) (v := ?_) rfl (by kernel_rfl) (by kernel_rfl) (by kernel_rfl) (fun _ _ _ h => h) (Or.inl ⟨by rfl, ?_⟩) hH1 ?_
        rotate_left
        · (intro w hSw; (try dsimp only at hSw); go_simp; try with_reducible rfl)
        (try simp only [Act.put, List.getElem_toArray, List.getElem_cons_zero, List.getElem_cons_succ, List.setIfInBounds_toArray, List.set_cons_zero, List.set_cons_succ])
        refine wpAnyH_take (i := 8) (v := ?_) rfl (by kernel_rfl) (by kernel_rfl) (by kernel_rfl) (fun _ _ _ h => h) (Or.inl ⟨by rfl, ?_⟩) hH1 ?_
        rotate_left
        · (intro w hSw; (try dsimp only at hSw); go_simp; try with_reducible rfl)
        (try simp only [Act.put, List.getElem_toArray, List.getElem_cons_zero, List.getElem_cons_succ, List.setIfInBounds_toArray, List.set_cons_zero, List.set_cons_succ])
        refine wpAnyH_take (i := 9) (v := ?_) rfl (by kernel_rfl) (by kernel_rfl) (by kernel_rfl) (fun _ _ _ h => h) (Or.inl ⟨by rfl, ?_⟩) hH1 ?_
        rotate_left
        · (intro w hSw; (try dsimp only at hSw); go_simp; try with_reducible rfl)
        (try simp only [Act.put, List.getElem_toArray, List.getElem_cons_zero, List.getElem_cons_succ, List.setIfInBounds_toArray, List.set_cons_zero, List.set_cons_succ])
        refine wpAnyH_take (i := 10) (v := ?_) rfl (by kernel_rfl) (by kernel_rfl) (by kernel_rfl) (fun _ _ _ h => h) (Or.inl ⟨by rfl, ?_⟩) hH1 ?_
        rotate_left
        · (intro w hSw; (try dsimp only at hSw); go_simp; try with_reducible rfl)
        (try simp only [Act.put, List.getElem_toArray, List.getElem_cons_zero, List.getElem_cons_succ, List.setIfInBounds_toArray, List.set_cons_zero, List.set_cons_succ])
        refine wpAnyH_take (i := 11) (v := ?_) rfl (by kernel_rfl) (by kernel_rfl) (by kernel_rfl) (fun _ _ _ h => h) (Or.inl ⟨by rfl, ?_⟩) hH1 ?_
        rotate_left
        · (intro w hSw; (try dsimp only at hSw); go_simp; try with_reducible rfl)
        (try simp only [Act.put, List.getElem_toArray, List.getElem_cons_zero, List.getElem_cons_succ, List.setIfInBounds_toArray, List.set_cons_zero, List.set_cons_succ])
        refine wpAnyH_ready (rs := [6]) (by kernel_rfl) (by simp) ?_
        refine AllReadyH.cons rfl (fun K hK => ?_) AllReadyH.nil
        go_simp
        (with_reducible refine (bytes_st hst6 j hjl').mono ?_)
        rintro e w7 ⟨A6, c6, rfl, hst7, hstr6, hstr7⟩
        have hall7 := hds.out _ hst7
        refine hK.out _ _ ?_ (fun hH2 => ?_)
        · exact hall7
        clear hK K
        (try simp only [Act.put, List.getElem_toArray, List.getElem_cons_zero, List.getElem_cons_succ, List.setIfInBounds_toArray, List.set_cons_zero, List.set_cons_succ])
        refine wpAnyH_ready (rs := [7]) (by kernel_rfl) (by simp) ?_
        refine AllReadyH.cons rfl (fun K hK => ?_) AllReadyH.nil
        go_simp
        refine hK.out _ _ ?_ (fun hH3 => ?_)
        · exact hH2
        clear hK K
        (try simp only [Act.put, List.getElem_toArray, List.getElem_cons_zero, List.getElem_cons_succ, List.setIfInBounds_toArray, List.set_cons_zero, List.set_cons_succ])
        refine wpAnyH_take (i := 12) (v := ?_) rfl (by kernel_rfl) (by kernel_rfl) (by kernel_rfl) (fun _ _ _ h => h) (Or.inl ⟨by rfl, ?_⟩) hH3 ?_
        rotate_left
        · (intro w hSw; (try dsimp only at hSw); go_simp; try with_reducible rfl)
        (try simp only [Act.put, List.getElem_toArray, List.getElem_cons_zero, List.getElem_cons_succ, List.setIfInBounds_toArray, List.set_cons_zero, List.set_cons_succ])
        refine wpAnyH_take (i := 13) (v := ?_) rfl (by kernel_rfl) (by kernel_rfl) (by kernel_rfl) (fun _ _ _ h => h) (Or.inl ⟨by rfl, ?_⟩) hH3 ?_
        rotate_left
        · (intro w hSw; (try dsimp only at hSw); go_simp; try with_reducible rfl)
        (try simp only [Act.put, List.getElem_toArray, List.getElem_cons_zero, List.getElem_cons_succ, List.setIfInBounds_toArray, List.set_cons_zero, List.set_cons_succ])
        refine wpAnyH_take (i := 14) (v := ?_) rfl (by kernel_rfl) (by kernel_rfl) (by kernel_rfl) (fun _ _ _ h => h) (Or.inl ⟨by rfl, ?_⟩) hH3 ?_
        rotate_left
        · (intro w hSw; (try dsimp only at hSw); go_simp; try with_reducible rfl)
        (try simp only [Act.put, List.getElem_toArray, List.getElem_cons_zero, List.getElem_cons_succ, List.setIfInBounds_toArray, List.set_cons_zero, List.set_cons_succ])
        refine wpAnyH_take (i := 15) (v := ?_) rfl (by kernel_rfl) (by kernel_rfl) (by kernel_rfl) (fun _ _ _ h => h) (Or.inl ⟨by rfl, ?_⟩) hH3 ?_
        rotate_left
        · (intro w hSw; (try dsimp only at hSw); go_simp; try with_reducible rfl)
        (try simp only [Act.put, List.getElem_toArray, List.getElem_cons_zero, List.getElem_cons_succ, List.setIfInBounds_toArray, List.set_cons_zero, List.set_cons_succ])
        refine wpAnyH_take (i := 17) (v := ?_) rfl (by kernel_rfl) (by kernel_rfl) (by kernel_rfl) (fun _ _ _ h => h) (Or.inl ⟨by rfl, ?_⟩) hH3 ?_
        rotate_left
        · (intro w hSw; (try dsimp only at hSw); go_simp; try with_reducible rfl)
        (try simp only [Act.put, List.getElem_toArray, List.getElem_cons_zero, List.getElem_cons_succ, List.setIfInBounds_toArray, List.set_cons_zero, List.set_cons_succ])
        refine wpAnyH_ready (rs := [16]) (by kernel_rfl) (by simp) ?_
        refine AllReadyH.cons rfl (fun K hK => ?_) AllReadyH.nil
        go_simp
        (with_reducible refine (sure_st hst7).mono ?_)
        rintro e w8 ⟨rfl, rfl⟩
        refine hK.out _ _ ?_ (fun hH4 => ?_)
        · exact hH3
        clear hK K
        (try simp only [Act.put, List.getElem_toArray, List.getElem_cons_zero, List.getElem_cons_succ, List.setIfInBounds_toArray, List.set_cons_zero, List.set_cons_succ])
        refine wpAnyH_take (i := 18) (v := ?_) rfl (by kernel_rfl) (by kernel_rfl) (by kernel_rfl) (fun _ _ _ h => h) (Or.inl ⟨by rfl, ?_⟩) hH4 ?_
        rotate_left
        · (intro w hSw; (try dsimp only at hSw); go_simp; try with_reducible rfl)
        (try simp only [Act.put, List.getElem_toArray, List.getElem_cons_zero, List.getElem_cons_succ, List.setIfInBounds_toArray, List.set_cons_zero, List.set_cons_succ])
        refine wpAnyH_take (i := 19) (v := ?_) rfl (by kernel_rfl) (by kernel_rfl) (by kernel_rfl) (fun _ _ _ h => h) (Or.inl ⟨by rfl, ?_⟩) hH4 ?_
        rotate_left
        · (intro w hSw; (try dsimp only at hSw); go_simp; try with_reducible rfl)
        (try simp only [Act.put, List.getElem_toArray, List.getElem_cons_zero, List.getElem_cons_succ, List.setIfInBounds_toArray, List.set_cons_zero, List.set_cons_succ])
        refine wpAnyH_done (by kernel_rfl) ?_ _
        go_wp2
        go_meet
        exact ⟨rfl, hst7⟩
      case rest =>
        obtain ⟨rfl, hst⟩ := hcut
        rw [← HTK.out] at hst
        have HAP : ∀ k X, X = (if c5 = j then A5 else A5.map (·.add j)) → Calls Try.prog 53 #[.pointer (some ⟨p, 0, none⟩), .slice X (b.length - j) k] wc (RetSt (.int .i64 0) w3 p b A5 c5 ⟨b, j, false⟩) := fun k X hX => append_st j k X hX hst hjb hc5 hs5
        have HSYNC : Hid (∀ W, CutSt w3 p b A5 c5 ⟨b, j, false⟩ W → Calls Try.prog 54 #[.pointer (some ⟨p, 0, none⟩)] W (RetSt (.int .i64 0) w3 p b A5 c5 ⟨b, b.length, false⟩)) := fun W hW => sync_st hW rfl
        have HBRK : Hid (∀ W, CutSt w3 p b A5 c5 ⟨b, b.length, false⟩ W → Calls Try.prog 48 #[.pointer (some ⟨p, 0, none⟩)] W (RetSt (.tuple #[]) w3 p b A5 c5 ⟨b, b.length, true⟩)) := fun W hW => break_st hW
        have HUP : Hid (∀ W, CutSt w3 p b A5 c5 ⟨b, b.length, true⟩ W → Calls Try.prog 49 #[.pointer (some ⟨p, 0, none⟩), .int .i64 0, .slice none 0 0] W (RetSt (.tuple #[]) w3 p b A5 c5 ⟨b, b.length, false⟩)) := fun W hW => up_st hW rfl
        have HALL : Hid (∀ S W, CutSt w3 p b A5 c5 S W → (convert 25 9 (.slice A5 b.length c5)).run Try.prog W = .ok (.string ⟨b.toArray⟩) W) := fun S W hW => by have := hW.str b.length (Nat.le_refl _) 0; rwa [List.take_length] at this
        have HBY : Hid (∀ W, CutSt w3 p b A5 c5 ⟨b, b.length, false⟩ W → Calls Try.prog 45 #[.pointer (some ⟨p, 0, none⟩)] W fun e w' => ∃ A' c', e = .returned (.slice A' b.length c') ∧ CutSt w3 p b A5 c5 ⟨b, b.length, false⟩ w' ∧
            (∀ n, (convert 25 9 (.slice A' b.length c')).run Try.prog (w'.drewN n) = .ok (.string ⟨b.toArray⟩) (w'.drewN n)) ∧ (convert 25 9 (.slice A' b.length c')).run Try.prog w' = .ok (.string ⟨b.toArray⟩) w') := fun W hW => bytes_st hW b.length rfl
        have HC13 : Hid (∀ W, CutSt w3 p b A5 c5 ⟨b, b.length, false⟩ W → Calls Try.prog 52 #[.pointer (some ⟨p, 0, none⟩), .int .i64 ((b.length : Int) + 1)] W (RetSt (.int .i64 13) w3 p b A5 c5 ⟨b, b.length, false⟩)) := fun W hW => by
          have h := cut_st hW ((b.length : Int) + 1)
          have he : cutE false ((b.length : Int) + 1) b.length = 13 := by unfold cutE; rw [if_neg (by simp), if_pos (by omega)]
          have hd : cutD ⟨b, b.length, false⟩ ((b.length : Int) + 1) = ⟨b, b.length, false⟩ := by unfold cutD; simp only [he]; rfl
          rw [hd] at h
          simp only [he] at h
          exact h
        have HC0 : Hid (∀ W, CutSt w3 p b A5 c5 ⟨b, b.length, false⟩ W → Calls Try.prog 52 #[.pointer (some ⟨p, 0, none⟩), .int .i64 (b.length : Int)] W (RetSt (.int .i64 0) w3 p b A5 c5 ⟨b, b.length, false⟩)) := fun W hW => by
          have h := cut_st hW (b.length : Int)
          have he : cutE false (b.length : Int) b.length = 0 := by unfold cutE; rw [if_neg (by simp), if_neg (by omega)]
          have hd : cutD ⟨b, b.length, false⟩ (b.length : Int) = ⟨b, b.length, false⟩ := by unfold cutD; simp only [he, if_true, Int.toNat_natCast, List.take_length]
          rw [hd] at h
          simp only [he] at h
          exact h
        have HEND : Hid (∀ S W, CutSt w3 p b A5 c5 S W → Below w.heap.size w W) := fun S W hW => by obtain ⟨_, _, _, hf, _⟩ := hW; exact hfb.out W hf
        clear hst hds hss HC hj' HTK hjl'
        by_cases hcj : c5 = j
        · subst hcj
          have HA : Hid (∀ k, Calls Try.prog 53 #[.pointer (some ⟨p, 0, none⟩), .slice A5 0 k] wc (RetSt (.int .i64 0) w3 p b A5 c5 ⟨b, c5, false⟩)) := fun k => by have h := HAP k A5 (if_pos rfl).symm; rwa [show b.length - c5 = 0 by omega] at h
          clear HAP
          go_wp2_with (first
            | (go_at_call 53; refine (HA.out _).mono ?_; rintro e w6 ⟨rfl, hst6⟩)
            | (go_at_call 54; refine (HSYNC.out _ hst6).mono ?_; rintro e w7 ⟨rfl, hst7⟩)
            | (go_at_call 48; refine (HBRK.out _ hst7).mono ?_; rintro e w8 ⟨rfl, hst8⟩)
            | (go_at_call 49; refine (HUP.out _ hst8).mono ?_; rintro e w9 ⟨rfl, hst9⟩))
          have hst9d := hst9.drew
          have hall := HALL.out _ _ hst9d
          have hbb : (b == b) = true := by simp
          have hwr : IntKind.i64.wrap ((b.length : Int) + 1) = (b.length : Int) + 1 := IntWalk.i64_in _ (by omega)
          refine wp_region_held_drew (S := fun W => (convert 25 9 (.slice A5 b.length c5)).run Try.prog W = .ok (.string ⟨b.toArray⟩) W) (by kernel_rfl) ?_ (fun hH0 => ?_)
          · exact hall
          refine wpAnyH_take (i := 0) (v := ?_) rfl (by kernel_rfl) (by kernel_rfl) (by kernel_rfl) (fun _ _ _ h => h) (Or.inl ⟨by rfl, ?_⟩) hH0 ?_
          rotate_left
          · (intro w hSw; (try dsimp only at hSw); go_simp; try with_reducible rfl)
          (try simp only [Act.put, List.getElem_toArray, List.getElem_cons_zero, List.getElem_cons_succ, List.setIfInBounds_toArray, List.set_cons_zero, List.set_cons_succ])
          refine wpAnyH_take (i := 1) (v := ?_) rfl (by kernel_rfl) (by kernel_rfl) (by kernel_rfl) (fun _ _ _ h => h) (Or.inl ⟨by rfl, ?_⟩) hH0 ?_
          rotate_left
          · (intro w hSw; (try dsimp only at hSw); go_simp; try with_reducible rfl)
          (try simp only [Act.put, List.getElem_toArray, List.getElem_cons_zero, List.getElem_cons_succ, List.setIfInBounds_toArray, List.set_cons_zero, List.set_cons_succ])
          refine wpAnyH_take (i := 2) (v := ?_) rfl (by kernel_rfl) (by kernel_rfl) (by kernel_rfl) (fun _ _ _ h => h) (Or.inl ⟨by rfl, ?_⟩) hH0 ?_
          rotate_left
          · (intro w hSw; (try dsimp only at hSw); go_simp; try with_reducible rfl)
          (try simp only [Act.put, List.getElem_toArray, List.getElem_cons_zero, List.getElem_cons_succ, List.setIfInBounds_toArray, List.set_cons_zero, List.set_cons_succ])
          refine wpAnyH_take (i := 3) (v := ?_) rfl (by kernel_rfl) (by kernel_rfl) (by kernel_rfl) (fun _ _ _ h => h) (Or.inl ⟨by rfl, ?_⟩) hH0 ?_
          rotate_left
          · (intro w hSw; (try dsimp only at hSw); go_simp; try with_reducible rfl)
          (try simp only [Act.put, List.getElem_toArray, List.getElem_cons_zero, List.getElem_cons_succ, List.setIfInBounds_toArray, List.set_cons_zero, List.set_cons_succ])
          refine wpAnyH_take (i := 4) (v := ?_) rfl (by kernel_rfl) (by kernel_rfl) (by kernel_rfl) (fun _ _ _ h => h) (Or.inl ⟨by rfl, ?_⟩) hH0 ?_
          rotate_left
          · (intro w hSw; (try dsimp only at hSw); go_simp; try with_reducible rfl)
          (try simp only [Act.put, List.getElem_toArray, List.getElem_cons_zero, List.getElem_cons_succ, List.setIfInBounds_toArray, List.set_cons_zero, List.set_cons_succ])
          refine wpAnyH_take (i := 5) (v := ?_) rfl (by kernel_rfl) (by kernel_rfl) (by kernel_rfl) (fun _ _ _ h => h) (Or.inl ⟨by rfl, ?_⟩) hH0 ?_
          rotate_left
          · (intro w hSw; (try dsimp only at hSw); go_simp; try with_reducible rfl)
          (try simp only [Act.put, List.getElem_toArray, List.getElem_cons_zero, List.getElem_cons_succ, List.setIfInBounds_toArray, List.set_cons_zero, List.set_cons_succ])
          refine wpAnyH_take (i := 6) (v := ?_) rfl (by kernel_rfl) (by kernel_rfl) (by kernel_rfl) (fun _ _ _ h => h) (Or.inl ⟨by rfl, ?_⟩) hH0 ?_
          rotate_left
          · (intro w hSw; (try dsimp only at hSw); go_simp; try with_reducible rfl)
          (try simp only [Act.put, List.getElem_toArray, List.getElem_cons_zero, List.getElem_cons_succ, List.setIfInBounds_toArray, List.set_cons_zero, List.set_cons_succ])
          refine wpAnyH_take (i := 7) (v := ?_) rfl (by kernel_rfl) (by kernel_rfl) (by kernel_rfl) (fun _ _ _ h => h) (Or.inl ⟨by rfl, ?_⟩) hH0 ?_
          rotate_left
          · (intro w hSw; (try dsimp only at hSw); go_simp; try with_reducible rfl)
          (try simp only [Act.put, List.getElem_toArray, List.getElem_cons_zero, List.getElem_cons_succ, List.setIfInBounds_toArray, List.set_cons_zero, List.set_cons_succ])
          refine wpAnyH_take (i := 10) (v := ?_) rfl (by kernel_rfl) (by kernel_rfl) (by kernel_rfl) (fun _ _ _ h => h) (Or.inl ⟨by rfl, ?_⟩) hH0 ?_
          rotate_left
          · (intro w hSw; (try dsimp only at hSw); go_simp; try with_reducible rfl)
          (try simp only [Act.put, List.getElem_toArray, List.getElem_cons_zero, List.getElem_cons_succ, List.setIfInBounds_toArray, List.set_cons_zero, List.set_cons_succ])
          refine wpAnyH_take (i := 11) (v := ?_) rfl (by kernel_rfl) (by kernel_rfl) (by kernel_rfl) (fun _ _ _ h => h) (Or.inl ⟨by rfl, ?_⟩) hH0 ?_
          rotate_left
          · (intro w hSw; (try dsimp only at hSw); go_simp; try with_reducible rfl)
          (try simp only [Act.put, List.getElem_toArray, List.getElem_cons_zero, List.getElem_cons_succ, List.setIfInBounds_toArray, List.set_cons_zero, List.set_cons_succ])
          refine wpAnyH_ready (rs := [8]) (by kernel_rfl) (by simp) ?_
          refine AllReadyH.cons rfl (fun K hK => ?_) AllReadyH.nil
          go_simp
          (with_reducible refine (HBY.out _ hst9d).mono ?_)
          rintro e w10 ⟨A10, c10, rfl, hst10, hstr10, hstr10b⟩
          have hall10 := HALL.out _ _ hst10
          refine hK.out _ _ ?_ (fun hH1 => ?_)
          · exact hall10
          clear hK K
          (try simp only [Act.put, List.getElem_toArray, List.getElem_cons_zero, List.getElem_cons_succ, List.setIfInBounds_toArray, List.set_cons_zero, List.set_cons_succ])
          refine wpAnyH_ready (rs := [9]) (by kernel_rfl) (by simp) ?_
          refine AllReadyH.cons rfl (fun K hK => ?_) AllReadyH.nil
          go_simp
          refine hK.out _ _ ?_ (fun hH2 => ?_)
          · exact hH1
          clear hK K
          (try simp only [Act.put, List.getElem_toArray, List.getElem_cons_zero, List.getElem_cons_succ, List.setIfInBounds_toArray, List.set_cons_zero, List.set_cons_succ])
          refine wpAnyH_take (i := 12) (v := ?_) rfl (by kernel_rfl) (by kernel_rfl) (by kernel_rfl) (fun _ _ _ h => h) (Or.inl ⟨by rfl, ?_⟩) hH2 ?_
          rotate_left
          · (intro w hSw; (try dsimp only at hSw); go_simp; try with_reducible rfl)
          (try simp only [Act.put, List.getElem_toArray, List.getElem_cons_zero, List.getElem_cons_succ, List.setIfInBounds_toArray, List.set_cons_zero, List.set_cons_succ])
          refine wpAnyH_take (i := 13) (v := ?_) rfl (by kernel_rfl) (by kernel_rfl) (by kernel_rfl) (fun _ _ _ h => h) (Or.inl ⟨by rfl, ?_⟩) hH2 ?_
          rotate_left
          · (intro w hSw; (try dsimp only at hSw); go_simp; try with_reducible rfl)
          (try simp only [Act.put, List.getElem_toArray, List.getElem_cons_zero, List.getElem_cons_succ, List.setIfInBounds_toArray, List.set_cons_zero, List.set_cons_succ])
          refine wpAnyH_take (i := 14) (v := ?_) rfl (by kernel_rfl) (by kernel_rfl) (by kernel_rfl) (fun _ _ _ h => h) (Or.inl ⟨by rfl, ?_⟩) hH2 ?_
          rotate_left
          · (intro w hSw; (try dsimp only at hSw); go_simp; try with_reducible rfl)
          (try simp only [Act.put, List.getElem_toArray, List.getElem_cons_zero, List.getElem_cons_succ, List.setIfInBounds_toArray, List.set_cons_zero, List.set_cons_succ])
          refine wpAnyH_take (i := 15) (v := ?_) rfl (by kernel_rfl) (by kernel_rfl) (by kernel_rfl) (fun _ _ _ h => h) (Or.inl ⟨by rfl, ?_⟩) hH2 ?_
          rotate_left
          · (intro w hSw; (try dsimp only at hSw); go_simp; try with_reducible rfl)
          (try simp only [Act.put, List.getElem_toArray, List.getElem_cons_zero, List.getElem_cons_succ, List.setIfInBounds_toArray, List.set_cons_zero, List.set_cons_succ])
          refine wpAnyH_take (i := 16) (v := ?_) rfl (by kernel_rfl) (by kernel_rfl) (by kernel_rfl) (fun _ _ _ h => h) (Or.inl ⟨by rfl, ?_⟩) hH2 ?_
          rotate_left
          · (intro w hSw; (try dsimp only at hSw); go_simp; try with_reducible rfl)
          (try simp only [Act.put, List.getElem_toArray, List.getElem_cons_zero, List.getElem_cons_succ, List.setIfInBounds_toArray, List.set_cons_zero, List.set_cons_succ])
          refine wpAnyH_take (i := 17) (v := ?_) rfl (by kernel_rfl) (by kernel_rfl) (by kernel_rfl) (fun _ _ _ h => h) (Or.inl ⟨by rfl, ?_⟩) hH2 ?_
          rotate_left
          · (intro w hSw; (try dsimp only at hSw); go_simp; try with_reducible rfl)
          (try simp only [Act.put, List.getElem_toArray, List.getElem_cons_zero, List.getElem_cons_succ, List.setIfInBounds_toArray, List.set_cons_zero, List.set_cons_succ])
          refine wpAnyH_take (i := 18) (v := ?_) rfl (by kernel_rfl) (by kernel_rfl) (by kernel_rfl) (fun _ _ _ h => h) (Or.inl ⟨by rfl, ?_⟩) hH2 ?_
          rotate_left
          · (intro w hSw; (try dsimp only at hSw); go_simp; try with_reducible rfl)
          (try simp only [Act.put, List.getElem_toArray, List.getElem_cons_zero, List.getElem_cons_succ, List.setIfInBounds_toArray, List.set_cons_zero, List.set_cons_succ])
          refine wpAnyH_ready (rs := [19]) (by kernel_rfl) (by simp) ?_
          refine AllReadyH.cons rfl (fun K hK => ?_) AllReadyH.nil
          go_simp
          (with_reducible refine (HC13.out _ hst10).mono ?_)
          rintro e w11 ⟨rfl, hst11⟩
          have hall11 := HALL.out _ _ hst11
          refine hK.out _ _ ?_ (fun hH3 => ?_)
          · exact hall11
          clear hK K
          (try simp only [Act.put, List.getElem_toArray, List.getElem_cons_zero, List.getElem_cons_succ, List.setIfInBounds_toArray, List.set_cons_zero, List.set_cons_succ])
          refine wpAnyH_take (i := 20) (v := ?_) rfl (by kernel_rfl) (by kernel_rfl) (by kernel_rfl) (fun _ _ _ h => h) (Or.inl ⟨by rfl, ?_⟩) hH3 ?_
          rotate_left
          · (intro w hSw; (try dsimp only at hSw); go_simp; try with_reducible rfl)
          (try simp only [Act.put, List.getElem_toArray, List.getElem_cons_zero, List.getElem_cons_succ, List.setIfInBounds_toArray, List.set_cons_zero, List.set_cons_succ])
          refine wpAnyH_take (i := 21) (v := ?_) rfl (by kernel_rfl) (by kernel_rfl) (by kernel_rfl) (fun _ _ _ h => h) (Or.inl ⟨by rfl, ?_⟩) hH3 ?_
          rotate_left
          · (intro w hSw; (try dsimp only at hSw); go_simp; try with_reducible rfl)
          (try simp only [Act.put, List.getElem_toArray, List.getElem_cons_zero, List.getElem_cons_succ, List.setIfInBounds_toArray, List.set_cons_zero, List.set_cons_succ])
          refine wpAnyH_take (i := 22) (v := ?_) rfl (by kernel_rfl) (by kernel_rfl) (by kernel_rfl) (fun _ _ _ h => h) (Or.inl ⟨by rfl, ?_⟩) hH3 ?_
          rotate_left
          · (intro w hSw; (try dsimp only at hSw); go_simp; try with_reducible rfl)
          (try simp only [Act.put, List.getElem_toArray, List.getElem_cons_zero, List.getElem_cons_succ, List.setIfInBounds_toArray, List.set_cons_zero, List.set_cons_succ])
          refine wpAnyH_take (i := 23) (v := ?_) rfl (by kernel_rfl) (by kernel_rfl) (by kernel_rfl) (fun _ _ _ h => h) (Or.inl ⟨by rfl, ?_⟩) hH3 ?_
          rotate_left
          · (intro w hSw; (try dsimp only at hSw); go_simp; try with_reducible rfl)
          (try simp only [Act.put, List.getElem_toArray, List.getElem_cons_zero, List.getElem_cons_succ, List.setIfInBounds_toArray, List.set_cons_zero, List.set_cons_succ])
          refine wpAnyH_take (i := 24) (v := ?_) rfl (by kernel_rfl) (by kernel_rfl) (by kernel_rfl) (fun _ _ _ h => h) (Or.inl ⟨by rfl, ?_⟩) hH3 ?_
          rotate_left
          · (intro w hSw; (try dsimp only at hSw); go_simp; try with_reducible rfl)
          (try simp only [Act.put, List.getElem_toArray, List.getElem_cons_zero, List.getElem_cons_succ, List.setIfInBounds_toArray, List.set_cons_zero, List.set_cons_succ])
          refine wpAnyH_take (i := 25) (v := ?_) rfl (by kernel_rfl) (by kernel_rfl) (by kernel_rfl) (fun _ _ _ h => h) (Or.inl ⟨by rfl, ?_⟩) hH3 ?_
          rotate_left
          · (intro w hSw; (try dsimp only at hSw); go_simp; try with_reducible rfl)
          (try simp only [Act.put, List.getElem_toArray, List.getElem_cons_zero, List.getElem_cons_succ, List.setIfInBounds_toArray, List.set_cons_zero, List.set_cons_succ])
          refine wpAnyH_ready (rs := [26]) (by kernel_rfl) (by simp) ?_
          refine AllReadyH.cons rfl (fun K hK => ?_) AllReadyH.nil
          go_simp
          (with_reducible refine (HC0.out _ hst11).mono ?_)
          rintro e w12 ⟨rfl, hst12⟩
          have hall12 := HALL.out _ _ hst12
          refine hK.out _ _ ?_ (fun hH4 => ?_)
          · exact hall12
          clear hK K
          (try simp only [Act.put, List.getElem_toArray, List.getElem_cons_zero, List.getElem_cons_succ, List.setIfInBounds_toArray, List.set_cons_zero, List.set_cons_succ])
          refine wpAnyH_take (i := 27) (v := ?_) rfl (by kernel_rfl) (by kernel_rfl) (by kernel_rfl) (fun _ _ _ h => h) (Or.inl ⟨by rfl, ?_⟩) hH4 ?_
          rotate_left
          · (intro w hSw; (try dsimp only at hSw); go_simp; try with_reducible rfl)
          (try simp only [Act.put, List.getElem_toArray, List.getElem_cons_zero, List.getElem_cons_succ, List.setIfInBounds_toArray, List.set_cons_zero, List.set_cons_succ])
          refine wpAnyH_take (i := 28) (v := ?_) rfl (by kernel_rfl) (by kernel_rfl) (by kernel_rfl) (fun _ _ _ h => h) (Or.inl ⟨by rfl, ?_⟩) hH4 ?_
          rotate_left
          · (intro w hSw; (try dsimp only at hSw); go_simp; try with_reducible rfl)
          (try simp only [Act.put, List.getElem_toArray, List.getElem_cons_zero, List.getElem_cons_succ, List.setIfInBounds_toArray, List.set_cons_zero, List.set_cons_succ])
          refine wpAnyH_take (i := 29) (v := ?_) rfl (by kernel_rfl) (by kernel_rfl) (by kernel_rfl) (fun _ _ _ h => h) (Or.inl ⟨by rfl, ?_⟩) hH4 ?_
          rotate_left
          · (intro w hSw; (try dsimp only at hSw); go_simp; try with_reducible rfl)
          (try simp only [Act.put, List.getElem_toArray, List.getElem_cons_zero, List.getElem_cons_succ, List.setIfInBounds_toArray, List.set_cons_zero, List.set_cons_succ])
          refine wpAnyH_take (i := 30) (v := ?_) rfl (by kernel_rfl) (by kernel_rfl) (by kernel_rfl) (fun _ _ _ h => h) (Or.inl ⟨by rfl, ?_⟩) hH4 ?_
          rotate_left
          · (intro w hSw; (try dsimp only at hSw); go_simp; try with_reducible rfl)
          (try simp only [Act.put, List.getElem_toArray, List.getElem_cons_zero, List.getElem_cons_succ, List.setIfInBounds_toArray, List.set_cons_zero, List.set_cons_succ])
          refine wpAnyH_take (i := 33) (v := ?_) rfl (by kernel_rfl) (by kernel_rfl) (by kernel_rfl) (fun _ _ _ h => h) (Or.inl ⟨by rfl, ?_⟩) hH4 ?_
          rotate_left
          · (intro w hSw; (try dsimp only at hSw); go_simp; try with_reducible rfl)
          (try simp only [Act.put, List.getElem_toArray, List.getElem_cons_zero, List.getElem_cons_succ, List.setIfInBounds_toArray, List.set_cons_zero, List.set_cons_succ])
          refine wpAnyH_take (i := 34) (v := ?_) rfl (by kernel_rfl) (by kernel_rfl) (by kernel_rfl) (fun _ _ _ h => h) (Or.inl ⟨by rfl, ?_⟩) hH4 ?_
          rotate_left
          · (intro w hSw; (try dsimp only at hSw); go_simp; try with_reducible rfl)
          (try simp only [Act.put, List.getElem_toArray, List.getElem_cons_zero, List.getElem_cons_succ, List.setIfInBounds_toArray, List.set_cons_zero, List.set_cons_succ])
          refine wpAnyH_ready (rs := [31]) (by kernel_rfl) (by simp) ?_
          refine AllReadyH.cons rfl (fun K hK => ?_) AllReadyH.nil
          go_simp
          (with_reducible refine (HBY.out _ hst12).mono ?_)
          rintro e w13 ⟨A13, c13, rfl, hst13, hstr13, hstr13b⟩
          have hall13 := HALL.out _ _ hst13
          refine hK.out _ _ ?_ (fun hH5 => ?_)
          · exact hall13
          clear hK K
          (try simp only [Act.put, List.getElem_toArray, List.getElem_cons_zero, List.getElem_cons_succ, List.setIfInBounds_toArray, List.set_cons_zero, List.set_cons_succ])
          refine wpAnyH_ready (rs := [32]) (by kernel_rfl) (by simp) ?_
          refine AllReadyH.cons rfl (fun K hK => ?_) AllReadyH.nil
          go_simp
          refine hK.out _ _ ?_ (fun hH6 => ?_)
          · exact hH5
          clear hK K
          (try simp only [Act.put, List.getElem_toArray, List.getElem_cons_zero, List.getElem_cons_succ, List.setIfInBounds_toArray, List.set_cons_zero, List.set_cons_succ])
          refine wpAnyH_take (i := 35) (v := ?_) rfl (by kernel_rfl) (by kernel_rfl) (by kernel_rfl) (fun _ _ _ h => h) (Or.inl ⟨by rfl, ?_⟩) hH6 ?_
          rotate_left
          · (intro w hSw; (try dsimp only at hSw); go_simp; try with_reducible rfl)
          (try simp only [Act.put, List.getElem_toArray, List.getElem_cons_zero, List.getElem_cons_succ, List.setIfInBounds_toArray, List.set_cons_zero, List.set_cons_succ])
          refine wpAnyH_take (i := 36) (v := ?_) rfl (by kernel_rfl) (by kernel_rfl) (by kernel_rfl) (fun _ _ _ h => h) (Or.inl ⟨by rfl, ?_⟩) hH6 ?_
          rotate_left
          · (intro w hSw; (try dsimp only at hSw); go_simp; try with_reducible rfl)
          (try simp only [Act.put, List.getElem_toArray, List.getElem_cons_zero, List.getElem_cons_succ, List.setIfInBounds_toArray, List.set_cons_zero, List.set_cons_succ])
          refine wpAnyH_take (i := 37) (v := ?_) rfl (by kernel_rfl) (by kernel_rfl) (by kernel_rfl) (fun _ _ _ h => h) (Or.inl ⟨by rfl, ?_⟩) hH6 ?_
          rotate_left
          · (intro w hSw; (try dsimp only at hSw); go_simp; try with_reducible rfl)
          (try simp only [Act.put, List.getElem_toArray, List.getElem_cons_zero, List.getElem_cons_succ, List.setIfInBounds_toArray, List.set_cons_zero, List.set_cons_succ])
          refine wpAnyH_done (by kernel_rfl) ?_ _
          go_wp2
          go_ret
          exact ⟨rfl, HEND.out _ _ hst13⟩
        · have HA : Hid (∀ k, Calls Try.prog 53 #[.pointer (some ⟨p, 0, none⟩), .slice (A5.map (·.add j)) (b.length - j) k] wc (RetSt (.int .i64 0) w3 p b A5 c5 ⟨b, j, false⟩)) := fun k => HAP k _ (if_neg hcj).symm
          clear HAP
          go_wp2_with (first
            | (go_at_call 53; refine (HA.out _).mono ?_; rintro e w6 ⟨rfl, hst6⟩)
            | (go_at_call 54; refine (HSYNC.out _ hst6).mono ?_; rintro e w7 ⟨rfl, hst7⟩)
            | (go_at_call 48; refine (HBRK.out _ hst7).mono ?_; rintro e w8 ⟨rfl, hst8⟩)
            | (go_at_call 49; refine (HUP.out _ hst8).mono ?_; rintro e w9 ⟨rfl, hst9⟩))
          have hst9d := hst9.drew
          have hall := HALL.out _ _ hst9d
          have hbb : (b == b) = true := by simp
          have hwr : IntKind.i64.wrap ((b.length : Int) + 1) = (b.length : Int) + 1 := IntWalk.i64_in _ (by omega)
          refine wp_region_held_drew (S := fun W => (convert 25 9 (.slice A5 b.length c5)).run Try.prog W = .ok (.string ⟨b.toArray⟩) W) (by kernel_rfl) ?_ (fun hH0 => ?_)
          · exact hall
          refine wpAnyH_take (i := 0) (v := ?_) rfl (by kernel_rfl) (by kernel_rfl) (by kernel_rfl) (fun _ _ _ h => h) (Or.inl ⟨by rfl, ?_⟩) hH0 ?_
          rotate_left
          · (intro w hSw; (try dsimp only at hSw); go_simp; try with_reducible rfl)
          (try simp only [Act.put, List.getElem_toArray, List.getElem_cons_zero, List.getElem_cons_succ, List.setIfInBounds_toArray, List.set_cons_zero, List.set_cons_succ])
          refine wpAnyH_take (i := 1) (v := ?_) rfl (by kernel_rfl) (by kernel_rfl) (by kernel_rfl) (fun _ _ _ h => h) (Or.inl ⟨by rfl, ?_⟩) hH0 ?_
          rotate_left
          · (intro w hSw; (try dsimp only at hSw); go_simp; try with_reducible rfl)
          (try simp only [Act.put, List.getElem_toArray, List.getElem_cons_zero, List.getElem_cons_succ, List.setIfInBounds_toArray, List.set_cons_zero, List.set_cons_succ])
          refine wpAnyH_take (i := 2) (v := ?_) rfl (by kernel_rfl) (by kernel_rfl) (by kernel_rfl) (fun _ _ _ h => h) (Or.inl ⟨by rfl, ?_⟩) hH0 ?_
          rotate_left
          · (intro w hSw; (try dsimp only at hSw); go_simp; try with_reducible rfl)
          (try simp only [Act.put, List.getElem_toArray, List.getElem_cons_zero, List.getElem_cons_succ, List.setIfInBounds_toArray, List.set_cons_zero, List.set_cons_succ])
          refine wpAnyH_take (i := 3) (v := ?_) rfl (by kernel_rfl) (by kernel_rfl) (by kernel_rfl) (fun _ _ _ h => h) (Or.inl ⟨by rfl, ?_⟩) hH0 ?_
          rotate_left
          · (intro w hSw; (try dsimp only at hSw); go_simp; try with_reducible rfl)
          (try simp only [Act.put, List.getElem_toArray, List.getElem_cons_zero, List.getElem_cons_succ, List.setIfInBounds_toArray, List.set_cons_zero, List.set_cons_succ])
          refine wpAnyH_take (i := 4) (v := ?_) rfl (by kernel_rfl) (by kernel_rfl) (by kernel_rfl) (fun _ _ _ h => h) (Or.inl ⟨by rfl, ?_⟩) hH0 ?_
          rotate_left
          · (intro w hSw; (try dsimp only at hSw); go_simp; try with_reducible rfl)
          (try simp only [Act.put, List.getElem_toArray, List.getElem_cons_zero, List.getElem_cons_succ, List.setIfInBounds_toArray, List.set_cons_zero, List.set_cons_succ])
          refine wpAnyH_take (i := 5) (v := ?_) rfl (by kernel_rfl) (by kernel_rfl) (by kernel_rfl) (fun _ _ _ h => h) (Or.inl ⟨by rfl, ?_⟩) hH0 ?_
          rotate_left
          · (intro w hSw; (try dsimp only at hSw); go_simp; try with_reducible rfl)
          (try simp only [Act.put, List.getElem_toArray, List.getElem_cons_zero, List.getElem_cons_succ, List.setIfInBounds_toArray, List.set_cons_zero, List.set_cons_succ])
          refine wpAnyH_take (i := 6) (v := ?_) rfl (by kernel_rfl) (by kernel_rfl) (by kernel_rfl) (fun _ _ _ h => h) (Or.inl ⟨by rfl, ?_⟩) hH0 ?_
          rotate_left
          · (intro w hSw; (try dsimp only at hSw); go_simp; try with_reducible rfl)
          (try simp only [Act.put, List.getElem_toArray, List.getElem_cons_zero, List.getElem_cons_succ, List.setIfInBounds_toArray, List.set_cons_zero, List.set_cons_succ])
          refine wpAnyH_take (i := 7) (v := ?_) rfl (by kernel_rfl) (by kernel_rfl) (by kernel_rfl) (fun _ _ _ h => h) (Or.inl ⟨by rfl, ?_⟩) hH0 ?_
          rotate_left
          · (intro w hSw; (try dsimp only at hSw); go_simp; try with_reducible rfl)
          (try simp only [Act.put, List.getElem_toArray, List.getElem_cons_zero, List.getElem_cons_succ, List.setIfInBounds_toArray, List.set_cons_zero, List.set_cons_succ])
          refine wpAnyH_take (i := 10) (v := ?_) rfl (by kernel_rfl) (by kernel_rfl) (by kernel_rfl) (fun _ _ _ h => h) (Or.inl ⟨by rfl, ?_⟩) hH0 ?_
          rotate_left
          · (intro w hSw; (try dsimp only at hSw); go_simp; try with_reducible rfl)
          (try simp only [Act.put, List.getElem_toArray, List.getElem_cons_zero, List.getElem_cons_succ, List.setIfInBounds_toArray, List.set_cons_zero, List.set_cons_succ])
          refine wpAnyH_take (i := 11) (v := ?_) rfl (by kernel_rfl) (by kernel_rfl) (by kernel_rfl) (fun _ _ _ h => h) (Or.inl ⟨by rfl, ?_⟩) hH0 ?_
          rotate_left
          · (intro w hSw; (try dsimp only at hSw); go_simp; try with_reducible rfl)
          (try simp only [Act.put, List.getElem_toArray, List.getElem_cons_zero, List.getElem_cons_succ, List.setIfInBounds_toArray, List.set_cons_zero, List.set_cons_succ])
          refine wpAnyH_ready (rs := [8]) (by kernel_rfl) (by simp) ?_
          refine AllReadyH.cons rfl (fun K hK => ?_) AllReadyH.nil
          go_simp
          (with_reducible refine (HBY.out _ hst9d).mono ?_)
          rintro e w10 ⟨A10, c10, rfl, hst10, hstr10, hstr10b⟩
          have hall10 := HALL.out _ _ hst10
          refine hK.out _ _ ?_ (fun hH1 => ?_)
          · exact hall10
          clear hK K
          (try simp only [Act.put, List.getElem_toArray, List.getElem_cons_zero, List.getElem_cons_succ, List.setIfInBounds_toArray, List.set_cons_zero, List.set_cons_succ])
          refine wpAnyH_ready (rs := [9]) (by kernel_rfl) (by simp) ?_
          refine AllReadyH.cons rfl (fun K hK => ?_) AllReadyH.nil
          go_simp
          refine hK.out _ _ ?_ (fun hH2 => ?_)
          · exact hH1
          clear hK K
          (try simp only [Act.put, List.getElem_toArray, List.getElem_cons_zero, List.getElem_cons_succ, List.setIfInBounds_toArray, List.set_cons_zero, List.set_cons_succ])
          refine wpAnyH_take (i := 12) (v := ?_) rfl (by kernel_rfl) (by kernel_rfl) (by kernel_rfl) (fun _ _ _ h => h) (Or.inl ⟨by rfl, ?_⟩) hH2 ?_
          rotate_left
          · (intro w hSw; (try dsimp only at hSw); go_simp; try with_reducible rfl)
          (try simp only [Act.put, List.getElem_toArray, List.getElem_cons_zero, List.getElem_cons_succ, List.setIfInBounds_toArray, List.set_cons_zero, List.set_cons_succ])
          refine wpAnyH_take (i := 13) (v := ?_) rfl (by kernel_rfl) (by kernel_rfl) (by kernel_rfl) (fun _ _ _ h => h) (Or.inl ⟨by rfl, ?_⟩) hH2 ?_
          rotate_left
          · (intro w hSw; (try dsimp only at hSw); go_simp; try with_reducible rfl)
          (try simp only [Act.put, List.getElem_toArray, List.getElem_cons_zero, List.getElem_cons_succ, List.setIfInBounds_toArray, List.set_cons_zero, List.set_cons_succ])
          refine wpAnyH_take (i := 14) (v := ?_) rfl (by kernel_rfl) (by kernel_rfl) (by kernel_rfl) (fun _ _ _ h => h) (Or.inl ⟨by rfl, ?_⟩) hH2 ?_
          rotate_left
          · (intro w hSw; (try dsimp only at hSw); go_simp; try with_reducible rfl)
          (try simp only [Act.put, List.getElem_toArray, List.getElem_cons_zero, List.getElem_cons_succ, List.setIfInBounds_toArray, List.set_cons_zero, List.set_cons_succ])
          refine wpAnyH_take (i := 15) (v := ?_) rfl (by kernel_rfl) (by kernel_rfl) (by kernel_rfl) (fun _ _ _ h => h) (Or.inl ⟨by rfl, ?_⟩) hH2 ?_
          rotate_left
          · (intro w hSw; (try dsimp only at hSw); go_simp; try with_reducible rfl)
          (try simp only [Act.put, List.getElem_toArray, List.getElem_cons_zero, List.getElem_cons_succ, List.setIfInBounds_toArray, List.set_cons_zero, List.set_cons_succ])
          refine wpAnyH_take (i := 16) (v := ?_) rfl (by kernel_rfl) (by kernel_rfl) (by kernel_rfl) (fun _ _ _ h => h) (Or.inl ⟨by rfl, ?_⟩) hH2 ?_
          rotate_left
          · (intro w hSw; (try dsimp only at hSw); go_simp; try with_reducible rfl)
          (try simp only [Act.put, List.getElem_toArray, List.getElem_cons_zero, List.getElem_cons_succ, List.setIfInBounds_toArray, List.set_cons_zero, List.set_cons_succ])
          refine wpAnyH_take (i := 17) (v := ?_) rfl (by kernel_rfl) (by kernel_rfl) (by kernel_rfl) (fun _ _ _ h => h) (Or.inl ⟨by rfl, ?_⟩) hH2 ?_
          rotate_left
          · (intro w hSw; (try dsimp only at hSw); go_simp; try with_reducible rfl)
          (try simp only [Act.put, List.getElem_toArray, List.getElem_cons_zero, List.getElem_cons_succ, List.setIfInBounds_toArray, List.set_cons_zero, List.set_cons_succ])
          refine wpAnyH_take (i := 18) (v := ?_) rfl (by kernel_rfl) (by kernel_rfl) (by kernel_rfl) (fun _ _ _ h => h) (Or.inl ⟨by rfl, ?_⟩) hH2 ?_
          rotate_left
          · (intro w hSw; (try dsimp only at hSw); go_simp; try with_reducible rfl)
          (try simp only [Act.put, List.getElem_toArray, List.getElem_cons_zero, List.getElem_cons_succ, List.setIfInBounds_toArray, List.set_cons_zero, List.set_cons_succ])
          refine wpAnyH_ready (rs := [19]) (by kernel_rfl) (by simp) ?_
          refine AllReadyH.cons rfl (fun K hK => ?_) AllReadyH.nil
          go_simp
          (with_reducible refine (HC13.out _ hst10).mono ?_)
          rintro e w11 ⟨rfl, hst11⟩
          have hall11 := HALL.out _ _ hst11
          refine hK.out _ _ ?_ (fun hH3 => ?_)
          · exact hall11
          clear hK K
          (try simp only [Act.put, List.getElem_toArray, List.getElem_cons_zero, List.getElem_cons_succ, List.setIfInBounds_toArray, List.set_cons_zero, List.set_cons_succ])
          refine wpAnyH_take (i := 20) (v := ?_) rfl (by kernel_rfl) (by kernel_rfl) (by kernel_rfl) (fun _ _ _ h => h) (Or.inl ⟨by rfl, ?_⟩) hH3 ?_
          rotate_left
          · (intro w hSw; (try dsimp only at hSw); go_simp; try with_reducible rfl)
          (try simp only [Act.put, List.getElem_toArray, List.getElem_cons_zero, List.getElem_cons_succ, List.setIfInBounds_toArray, List.set_cons_zero, List.set_cons_succ])
          refine wpAnyH_take (i := 21) (v := ?_) rfl (by kernel_rfl) (by kernel_rfl) (by kernel_rfl) (fun _ _ _ h => h) (Or.inl ⟨by rfl, ?_⟩) hH3 ?_
          rotate_left
          · (intro w hSw; (try dsimp only at hSw); go_simp; try with_reducible rfl)
          (try simp only [Act.put, List.getElem_toArray, List.getElem_cons_zero, List.getElem_cons_succ, List.setIfInBounds_toArray, List.set_cons_zero, List.set_cons_succ])
          refine wpAnyH_take (i := 22) (v := ?_) rfl (by kernel_rfl) (by kernel_rfl) (by kernel_rfl) (fun _ _ _ h => h) (Or.inl ⟨by rfl, ?_⟩) hH3 ?_
          rotate_left
          · (intro w hSw; (try dsimp only at hSw); go_simp; try with_reducible rfl)
          (try simp only [Act.put, List.getElem_toArray, List.getElem_cons_zero, List.getElem_cons_succ, List.setIfInBounds_toArray, List.set_cons_zero, List.set_cons_succ])
          refine wpAnyH_take (i := 23) (v := ?_) rfl (by kernel_rfl) (by kernel_rfl) (by kernel_rfl) (fun _ _ _ h => h) (Or.inl ⟨by rfl, ?_⟩) hH3 ?_
          rotate_left
          · (intro w hSw; (try dsimp only at hSw); go_simp; try with_reducible rfl)
          (try simp only [Act.put, List.getElem_toArray, List.getElem_cons_zero, List.getElem_cons_succ, List.setIfInBounds_toArray, List.set_cons_zero, List.set_cons_succ])
          refine wpAnyH_take (i := 24) (v := ?_) rfl (by kernel_rfl) (by kernel_rfl) (by kernel_rfl) (fun _ _ _ h => h) (Or.inl ⟨by rfl, ?_⟩) hH3 ?_
          rotate_left
          · (intro w hSw; (try dsimp only at hSw); go_simp; try with_reducible rfl)
          (try simp only [Act.put, List.getElem_toArray, List.getElem_cons_zero, List.getElem_cons_succ, List.setIfInBounds_toArray, List.set_cons_zero, List.set_cons_succ])
          refine wpAnyH_take (i := 25) (v := ?_) rfl (by kernel_rfl) (by kernel_rfl) (by kernel_rfl) (fun _ _ _ h => h) (Or.inl ⟨by rfl, ?_⟩) hH3 ?_
          rotate_left
          · (intro w hSw; (try dsimp only at hSw); go_simp; try with_reducible rfl)
          (try simp only [Act.put, List.getElem_toArray, List.getElem_cons_zero, List.getElem_cons_succ, List.setIfInBounds_toArray, List.set_cons_zero, List.set_cons_succ])
          refine wpAnyH_ready (rs := [26]) (by kernel_rfl) (by simp) ?_
          refine AllReadyH.cons rfl (fun K hK => ?_) AllReadyH.nil
          go_simp
          (with_reducible refine (HC0.out _ hst11).mono ?_)
          rintro e w12 ⟨rfl, hst12⟩
          have hall12 := HALL.out _ _ hst12
          refine hK.out _ _ ?_ (fun hH4 => ?_)
          · exact hall12
          clear hK K
          (try simp only [Act.put, List.getElem_toArray, List.getElem_cons_zero, List.getElem_cons_succ, List.setIfInBounds_toArray, List.set_cons_zero, List.set_cons_succ])
          refine wpAnyH_take (i := 27) (v := ?_) rfl (by kernel_rfl) (by kernel_rfl) (by kernel_rfl) (fun _ _ _ h => h) (Or.inl ⟨by rfl, ?_⟩) hH4 ?_
          rotate_left
          · (intro w hSw; (try dsimp only at hSw); go_simp; try with_reducible rfl)
          (try simp only [Act.put, List.getElem_toArray, List.getElem_cons_zero, List.getElem_cons_succ, List.setIfInBounds_toArray, List.set_cons_zero, List.set_cons_succ])
          refine wpAnyH_take (i := 28) (v := ?_) rfl (by kernel_rfl) (by kernel_rfl) (by kernel_rfl) (fun _ _ _ h => h) (Or.inl ⟨by rfl, ?_⟩) hH4 ?_
          rotate_left
          · (intro w hSw; (try dsimp only at hSw); go_simp; try with_reducible rfl)
          (try simp only [Act.put, List.getElem_toArray, List.getElem_cons_zero, List.getElem_cons_succ, List.setIfInBounds_toArray, List.set_cons_zero, List.set_cons_succ])
          refine wpAnyH_take (i := 29) (v := ?_) rfl (by kernel_rfl) (by kernel_rfl) (by kernel_rfl) (fun _ _ _ h => h) (Or.inl ⟨by rfl, ?_⟩) hH4 ?_
          rotate_left
          · (intro w hSw; (try dsimp only at hSw); go_simp; try with_reducible rfl)
          (try simp only [Act.put, List.getElem_toArray, List.getElem_cons_zero, List.getElem_cons_succ, List.setIfInBounds_toArray, List.set_cons_zero, List.set_cons_succ])
          refine wpAnyH_take (i := 30) (v := ?_) rfl (by kernel_rfl) (by kernel_rfl) (by kernel_rfl) (fun _ _ _ h => h) (Or.inl ⟨by rfl, ?_⟩) hH4 ?_
          rotate_left
          · (intro w hSw; (try dsimp only at hSw); go_simp; try with_reducible rfl)
          (try simp only [Act.put, List.getElem_toArray, List.getElem_cons_zero, List.getElem_cons_succ, List.setIfInBounds_toArray, List.set_cons_zero, List.set_cons_succ])
          refine wpAnyH_take (i := 33) (v := ?_) rfl (by kernel_rfl) (by kernel_rfl) (by kernel_rfl) (fun _ _ _ h => h) (Or.inl ⟨by rfl, ?_⟩) hH4 ?_
          rotate_left
          · (intro w hSw; (try dsimp only at hSw); go_simp; try with_reducible rfl)
          (try simp only [Act.put, List.getElem_toArray, List.getElem_cons_zero, List.getElem_cons_succ, List.setIfInBounds_toArray, List.set_cons_zero, List.set_cons_succ])
          refine wpAnyH_take (i := 34) (v := ?_) rfl (by kernel_rfl) (by kernel_rfl) (by kernel_rfl) (fun _ _ _ h => h) (Or.inl ⟨by rfl, ?_⟩) hH4 ?_
          rotate_left
          · (intro w hSw; (try dsimp only at hSw); go_simp; try with_reducible rfl)
          (try simp only [Act.put, List.getElem_toArray, List.getElem_cons_zero, List.getElem_cons_succ, List.setIfInBounds_toArray, List.set_cons_zero, List.set_cons_succ])
          refine wpAnyH_ready (rs := [31]) (by kernel_rfl) (by simp) ?_
          refine AllReadyH.cons rfl (fun K hK => ?_) AllReadyH.nil
          go_simp
          (with_reducible refine (HBY.out _ hst12).mono ?_)
          rintro e w13 ⟨A13, c13, rfl, hst13, hstr13, hstr13b⟩
          have hall13 := HALL.out _ _ hst13
          refine hK.out _ _ ?_ (fun hH5 => ?_)
          · exact hall13
          clear hK K
          (try simp only [Act.put, List.getElem_toArray, List.getElem_cons_zero, List.getElem_cons_succ, List.setIfInBounds_toArray, List.set_cons_zero, List.set_cons_succ])
          refine wpAnyH_ready (rs := [32]) (by kernel_rfl) (by simp) ?_
          refine AllReadyH.cons rfl (fun K hK => ?_) AllReadyH.nil
          go_simp
          refine hK.out _ _ ?_ (fun hH6 => ?_)
          · exact hH5
          clear hK K
          (try simp only [Act.put, List.getElem_toArray, List.getElem_cons_zero, List.getElem_cons_succ, List.setIfInBounds_toArray, List.set_cons_zero, List.set_cons_succ])
          refine wpAnyH_take (i := 35) (v := ?_) rfl (by kernel_rfl) (by kernel_rfl) (by kernel_rfl) (fun _ _ _ h => h) (Or.inl ⟨by rfl, ?_⟩) hH6 ?_
          rotate_left
          · (intro w hSw; (try dsimp only at hSw); go_simp; try with_reducible rfl)
          (try simp only [Act.put, List.getElem_toArray, List.getElem_cons_zero, List.getElem_cons_succ, List.setIfInBounds_toArray, List.set_cons_zero, List.set_cons_succ])
          refine wpAnyH_take (i := 36) (v := ?_) rfl (by kernel_rfl) (by kernel_rfl) (by kernel_rfl) (fun _ _ _ h => h) (Or.inl ⟨by rfl, ?_⟩) hH6 ?_
          rotate_left
          · (intro w hSw; (try dsimp only at hSw); go_simp; try with_reducible rfl)
          (try simp only [Act.put, List.getElem_toArray, List.getElem_cons_zero, List.getElem_cons_succ, List.setIfInBounds_toArray, List.set_cons_zero, List.set_cons_succ])
          refine wpAnyH_take (i := 37) (v := ?_) rfl (by kernel_rfl) (by kernel_rfl) (by kernel_rfl) (fun _ _ _ h => h) (Or.inl ⟨by rfl, ?_⟩) hH6 ?_
          rotate_left
          · (intro w hSw; (try dsimp only at hSw); go_simp; try with_reducible rfl)
          (try simp only [Act.put, List.getElem_toArray, List.getElem_cons_zero, List.getElem_cons_succ, List.setIfInBounds_toArray, List.set_cons_zero, List.set_cons_succ])
          refine wpAnyH_done (by kernel_rfl) ?_ _
          go_wp2
          go_ret
          exact ⟨rfl, HEND.out _ _ hst13⟩
end Go.Proofs.Ytjfbpnhkdlbinaa
