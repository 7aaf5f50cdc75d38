/- The document's own chart: Get, Open. -/
import Derived.Test.YtjbeaoabhhaiiaaGreatChartJ2
import Derived.Deep.RegionHeld3
import Derived.Deep.CutBlock
import Derived.Deep.RegionLaw
namespace Go.Proofs.YtjbeaoabhhaiiaaGreat
open Go.RowKit Go.My Go.Maps
set_option linter.unusedSimpArgs false
set_option linter.unusedVariables false
attribute [local go_sem ↓] Go.wp_at_zero Go.wp_at_succ

def GotR (S : List Ac) (nm : List UInt8) (w : World) (e : Ending) (w' : World) : Prop := e = .returned (.tuple #[(getV S nm).val, .int .i64 (if (getA S nm).isSome then 0 else 6)]) ∧ Fr No w w'

set_option maxRecDepth 100000 in
set_option maxHeartbeats 1000000 in
theorem refget_any (q : Nat) (S : List Ac) (s : ByteArray) (w : World) (h : RfS w q S) (hI : Inv S) :
    Calls Tryz.prog 37 #[.pointer (some ⟨q, 0, none⟩), .string s] w (GotR S s.data.toList w) := by
  have HAT : Hid (∀ W, Fr No w W → Calls Tryz.prog 59 #[.pointer (some ⟨q, 0, none⟩), .string s] W (AtRet S s.data.toList W)) := fun W hW => refat_any q S s W (h.no hW) hI.len
  have hL := hI.len
  obtain ⟨A, c, hb, h1, h2, ho⟩ := h
  have HB := Lib.hid hb
  have HO := Lib.hid ho
  unfold maxLen at h2
  have hql := hb.lt
  clear hb ho hI
  have hfa : Fr No w (w.alloc (.cells #[.string ⟨#[]⟩, .int .i64 0, .int .i64 0, .int .i64 0] 80)) := (Fr.refl _ _).alloc _
  have hba := Blk.new w 80 #[.string ⟨#[]⟩, .int .i64 0, .int .i64 0, .int .i64 0]
  have d0 := hba.cell 0
  have d1 := hba.cell 1
  have d2 := hba.cell 2
  have d3 := hba.cell 3
  have f0 := hba.frozen 0
  have f1 := hba.frozen 1
  have f2 := hba.frozen 2
  have f3 := hba.frozen 3
  simp only [List.getElem?_toArray, List.getElem?_cons_zero, List.getElem?_cons_succ] at d0 d1 d2 d3
  have HFA := Lib.hid hfa
  clear hfa hba
  go_enter Tryz.func37, Tryz.ntmps37
  go_wp2_with fail
  refine (HAT.out _ HFA.out).mono ?_
  rintro e w1 ⟨z, rfl, hz, rfl⟩
  rcases hz with ⟨hg, rfl⟩ | ⟨k, hk, rfl, hnm, hg⟩
  · have HG := Lib.hid hg
    clear hg
    go_wp2
    refine bodyPost_ret (v := .tuple #[.agg #[.string ⟨#[]⟩, .int .i64 0, .int .i64 0, .int .i64 0], .int .i64 6]) (by simp [results, Tryz.results37, go_sem, d0, d1, d2, d3, f0, f1, f2, f3]) rfl ?_
    refine ⟨by unfold getV; rw [HG.out]; rfl, ?_⟩
    repeat (first | exact Fr.refl _ _ | refine Fr.setCell (p := ⟨w.heap.size, _, none⟩) ?_ (fun h => absurd h (Nat.lt_irrefl _)) _ | refine Fr.alloc ?_ _)
  · have HG := Lib.hid hg
    obtain ⟨ad, rfl, _, p0, p1, p2, p3⟩ := acs_at (HO.out.rd.fr (by omega) HFA.out (fun _ _ _ h => h)) k hk
    have c0 := (HB.out.fr HFA.out (fun h => h)).cell 0
    simp only [List.getElem?_toArray, List.getElem?_cons_zero] at c0
    generalize S[k] = a at *
    obtain ⟨na, va, sa, la⟩ := a
    simp only at p0 p1 p2 p3
    clear hg hnm
    go_wp2
    refine bodyPost_ret (v := .tuple #[.agg #[.string ⟨na.toArray⟩, .int .i64 va, .int .i64 sa, .int .i64 la], .int .i64 0]) (by simp [results, Tryz.results37, go_sem, d0, d1, d2, d3, f0, f1, f2, f3]) rfl ?_
    refine ⟨by unfold getV; rw [HG.out]; rfl, ?_⟩
    repeat (first | exact Fr.refl _ _ | refine Fr.setCell (p := ⟨w.heap.size, _, none⟩) ?_ (fun h => absurd h (Nat.lt_irrefl _)) _ | refine Fr.alloc ?_ _)

theorem acs_take (S : List Ac) (k : Nat) (hk : k ≤ S.length) : (acs S).take (k * 4) = acs (S.take k) := by
  have h : acs S = acs (S.take k) ++ acs (S.drop k) := by rw [← acs_append, List.take_append_drop]
  rw [h]
  exact List.take_left' (by rw [acs_length, List.length_take, Nat.min_eq_left hk])
theorem acs_drop (S : List Ac) (k : Nat) (hk : k ≤ S.length) : (acs S).drop (k * 4) = acs (S.drop k) := by
  have h : acs S = acs (S.take k) ++ acs (S.drop k) := by rw [← acs_append, List.take_append_drop]
  rw [h]
  exact List.drop_left' (by rw [acs_length, List.length_take, Nat.min_eq_left hk])
theorem rd_no {a b : World} {F : Nat → Prop} {size n : Nat} {A : Option Addr} {xs : List Value} (h : Rd a F size A n xs) (hs : 0 < size) (hf : Fr No a b) : Rd b F size A n xs := h.fr hs hf fun _ _ _ h => h

def OpRel (S : List Ac) (nm : List UInt8) (w : World) (kv : Value) (wr : World) : Prop :=
  ∃ k : Nat, k ≤ S.length ∧ kv = .int .i64 k ∧ (∀ i (h : i < S.length), k ≤ i → bytesBefore nm S[i].name = true) ∧ Fr No w wr
def OpEnd (S : List Ac) (nm : List UInt8) (w : World) (kv : Value) (wr : World) : Prop :=
  ∃ k : Nat, k ≤ S.length ∧ kv = .int .i64 k ∧ (∀ i (h : i < S.length), k ≤ i → bytesBefore nm S[i].name = true) ∧ (∀ (h : 0 < k) (h2 : k - 1 < S.length), bytesBefore nm S[k - 1].name = false) ∧ Fr No w wr

set_option maxRecDepth 100000 in
set_option maxHeartbeats 4000000 in
theorem refopen_any (q : Nat) (S : List Ac) (s : ByteArray) (lim : Int) (w : World) (h : RfS w q S) (hI : Inv S) (hs : s.size ≤ maxLen) (hlim : In64 lim) :
    Calls Tryz.prog 53 #[.pointer (some ⟨q, 0, none⟩), .string s, .int .i64 lim] w (DeedsR q (openE S s.data.toList lim) (openS S s.data.toList lim) w) := by
  have HH := Lib.hid h
  have HI := Lib.hid hI
  have HNM := Lib.hid (refname_any s w hs)
  have HAT := Lib.hid (refat_any q S s w h hI.len)
  have HSZ := Lib.hid hs
  have hL := hI.len
  unfold In64 at hlim
  obtain ⟨hl1, hl2⟩ := hlim
  obtain ⟨A, c, hb, h1, h2, ho⟩ := h
  have c0 := hb.cell 0
  have f0 := hb.frozen 0
  simp only [List.getElem?_toArray, List.getElem?_cons_zero] at c0
  have HB := Lib.hid hb
  have HO := Lib.hid ho
  unfold maxLen at h2
  clear hb ho hI hs
  have HE : Hid (∀ n S' W, openE S s.data.toList lim = n → openS S s.data.toList lim = S' → RfS W q S' → Fr (At1 q) w W → DeedsR q (openE S s.data.toList lim) (openS S s.data.toList lim) w (.returned (.int .i64 n)) W) := fun n S' W h1 h2 h3 h4 => ⟨by rw [h1], by rw [h2]; exact h3, h4⟩
  have HE1 : Hid (∀ n, n ≠ 0 → openE S s.data.toList lim = n → DeedsR q (openE S s.data.toList lim) (openS S s.data.toList lim) w (.returned (.int .i64 n)) w) := fun n hn h1 => HE.out n S w h1 (by unfold openS; rw [h1, if_neg hn]) HH.out (Fr.refl _ _)
  cases hnb : nameB s.data.toList
  · rw [hnb] at HNM
    have HN : Hid (openE S s.data.toList lim = 1) := by show _ = _; unfold openE; rw [if_pos (.inl hnb)]
    clear hnb
    go_enter Tryz.func53, Tryz.ntmps53
    go_wp2_with (go_at_call 30; (with_reducible refine HNM.out.mono ?_); rintro e w1 ⟨rfl, rfl⟩)
    go_ret
    exact HE1.out 1 (by decide) HN.out
  · rw [hnb] at HNM
    by_cases hneg : lim < 0
    · have HN : Hid (openE S s.data.toList lim = 1) := by show _ = _; unfold openE; rw [if_pos (.inr hneg)]
      clear hnb
      go_enter Tryz.func53, Tryz.ntmps53
      go_wp2_with (go_at_call 30; (with_reducible refine HNM.out.mono ?_); rintro e w1 ⟨rfl, rfl⟩)
      go_ret
      exact HE1.out 1 (by decide) HN.out
    · have HOE : Hid (openE S s.data.toList lim = if (getA S s.data.toList).isSome then 7 else if 12 ≤ S.length then 5 else 0) := by
        show _ = _
        unfold openE
        rw [if_neg (by rw [hnb]; simp; omega)]
      clear hnb
      go_enter Tryz.func53, Tryz.ntmps53
      go_wp2_with (go_at_call 30; (with_reducible refine HNM.out.mono ?_); rintro e w1 ⟨rfl, rfl⟩)
      refine HAT.out.mono ?_
      rintro e w1 ⟨z, rfl, hz, rfl⟩
      rcases hz with ⟨hg, rfl⟩ | ⟨k, hk, rfl, hnm, hg⟩
      · by_cases h12 : 12 ≤ S.length
        · have HN : Hid (openE S s.data.toList lim = 5) := by show _ = _; rw [HOE.out, hg, if_neg (by simp), if_pos h12]
          clear hg
          go_wp2
          go_ret
          exact HE1.out 5 (by decide) HN.out
        · have HN : Hid (openE S s.data.toList lim = 0) := by show _ = _; rw [HOE.out, hg, if_neg (by simp), if_neg h12]
          have HG := Lib.hid hg
          clear hg HNM HAT
          go_upto_block 0 with (fail)
          go_cut [7] (fun a7 wx => OpEnd S s.data.toList w a7 wx)
          case first =>
            go_wp2_with fail
            go_loopw [7] (fun kv wr => OpRel S s.data.toList w kv wr) (fun kv _ => (intOf kv).toNat)
            case atStart => exact ⟨S.length, Nat.le_refl _, rfl, fun i h h' => absurd h' (by omega), Fr.refl _ _⟩
            case round =>
              obtain ⟨k, hk, rfl, hall, hfr⟩ := hrel
              have c1 := (HB.out.fr hfr (fun h => h)).cell 0
              simp only [List.getElem?_toArray, List.getElem?_cons_zero] at c1
              have HALL := Lib.hid hall
              clear hall
              by_cases hk0 : 0 < k
              · obtain ⟨j, hj⟩ : ∃ j, k = j + 1 := ⟨k - 1, by omega⟩
                have hjl : j < S.length := by omega
                obtain ⟨ad, rfl, _, p0, _⟩ := acs_at (HO.out.rd.fr (by omega) hfr (fun _ _ _ h => h)) j hjl
                have hkj : (k : Int) - 1 = (j : Int) := by omega
                have hgt : (0 : Int) < (k : Int) := by omega
                have h3 := HI.out.nm S[j] (List.getElem_mem hjl)
                have h4 : (⟨S[j].name.toArray⟩ : ByteArray).size = S[j].name.length := by
                  show S[j].name.toArray.size = _
                  simp
                have HAH := Lib.hid (refahead_any s ⟨S[j].name.toArray⟩ wr HSZ.out (by rw [h4]; unfold maxLen; omega))
                clear h3 h4
                have HFR := Lib.hid hfr
                cases hbf : bytesBefore s.data.toList S[j].name with
                | true =>
                  have HNX : Hid (∀ i (h : i < S.length), j ≤ i → bytesBefore s.data.toList S[i].name = true) := fun i h hji => by
                    rcases Nat.eq_or_lt_of_le hji with e | e
                    · subst e; exact hbf
                    · exact HALL.out i h (by omega)
                  have hA := HAH.out
                  rw [show (⟨S[j].name.toArray⟩ : ByteArray).data.toList = S[j].name by simp, hbf] at hA
                  have HA := Lib.hid hA
                  generalize S[j].name.toArray = nj at *
                  clear hA hbf HAH hfr hj
                  go_wp2_with (go_at_call 58; (with_reducible refine HA.out.mono ?_); rintro e w3 ⟨rfl, j3, rfl⟩)
                  go_roundw
                  case rel => exact ⟨j, by omega, rfl, HNX.out, HFR.out.drewN _⟩
                  case measure => simp [intOf]; omega
                | false =>
                  have HNX : Hid (∀ (h : 0 < k) (h2 : k - 1 < S.length), bytesBefore s.data.toList S[k - 1].name = false) := fun _ h2 => by
                    subst hj
                    exact hbf
                  have hA := HAH.out
                  rw [show (⟨S[j].name.toArray⟩ : ByteArray).data.toList = S[j].name by simp, hbf] at hA
                  have HA := Lib.hid hA
                  generalize S[j].name.toArray = nj at *
                  clear hA hbf HAH hfr hj
                  go_wp2_with (go_at_call 58; (with_reducible refine HA.out.mono ?_); rintro e w3 ⟨rfl, j3, rfl⟩)
                  go_meet
                  exact ⟨k, hk, rfl, HALL.out, HNX.out, HFR.out.drewN _⟩
              · have hgt : ¬ (0 : Int) < (k : Int) := by omega
                have HFR := Lib.hid hfr
                have HNX : Hid (∀ (h : 0 < k) (h2 : k - 1 < S.length), bytesBefore s.data.toList S[k - 1].name = false) := fun h _ => absurd h hk0
                clear hfr hk0
                go_wp2
                go_meet
                exact ⟨k, hk, rfl, HALL.out, HNX.out, HFR.out⟩
          case rest =>
            obtain ⟨k, hk, rfl, hall, hno, hfr⟩ := hcut
            have HP : Hid (openS S s.data.toList lim = S.take k ++ ⟨s.data.toList, 0, 0, lim⟩ :: S.drop k) := by
              show _ = _
              unfold openS
              rw [HN.out, if_pos rfl, put_ins (a := ⟨s.data.toList, 0, 0, lim⟩) HG.out]
              exact ins_at S ⟨s.data.toList, 0, 0, lim⟩ k hk HI.out.rise hall hno
            have hbW := HB.out.fr hfr (fun h => h)
            have k0 := hbW.cell 0
            have z0 := hbW.frozen 0
            simp only [List.getElem?_toArray, List.getElem?_cons_zero] at k0
            have hrd := HO.out.rd.fr (by omega) hfr (fun _ _ _ h => h)
            have hrdT : Rd wc (fun k' => (Value.slice A S.length c).ownBlock = some k') 4 A k (acs (S.take k)) := by
              have := hrd.take hk
              rwa [acs_take S k hk] at this
            obtain ⟨X, hX⟩ : ∃ X, X = if c = k then A else A.map (·.add (k * 4)) := ⟨_, rfl⟩
            have hrdD : Rd wc (fun k' => (Value.slice A S.length c).ownBlock = some k') 4 X (S.length - k) (acs (S.drop k)) := by
              have := hrd.cut hk h1
              rw [acs_drop S k hk] at this
              rwa [hX]
            have HST : Hid (∀ W c', Fr No wc W → Src Tryz.prog W 4 77 (.slice A k c') k (acs (S.take k))) := fun W c' hW => Src.of_rd (rd_no hrdT (by omega) hW) (acs_ones _) Tryz.underlying77
            have HSD : Hid (∀ W c', Fr No wc W → Src Tryz.prog W 4 77 (.slice X (S.length - k) c') (S.length - k) (acs (S.drop k))) := fun W c' hW => Src.of_rd (rd_no hrdD (by omega) hW) (acs_ones _) Tryz.underlying77
            have HBW := Lib.hid hbW
            have HFW := Lib.hid hfr
            have HCELL : Hid (∀ W, Fr No wc W → W.cell? ⟨q, 0, none⟩ = some (.slice A S.length c)) := fun W hW => hW.cell_some k0 (fun h => h)
            have hkc : k ≤ c := by omega
            have hqa := fun o => HCELL.out _ ((Fr.refl No wc).alloc o)
            have hdd : Fr No wc wc.drew := (Fr.refl _ _).drew
            have HM : Hid (0 + k ≤ maxLen ∧ (0 + k) * 40 ≤ 140737488355328 ∧ k + 1 ≤ maxLen ∧ (k + 1) * 40 ≤ 140737488355328 ∧ k + 1 + (S.length - k) ≤ maxLen ∧ (k + 1 + (S.length - k)) * 40 ≤ 140737488355328) := by
              refine ⟨?_, ?_, ?_, ?_, ?_, ?_⟩ <;> (try simp only [maxLen]) <;> omega
            clear hall hno hrd hrdT hrdD c0 f0 hbW hfr
            by_cases hck : c = k
            all_goals
              first | rw [if_pos hck] at hX | rw [if_neg hck] at hX
              subst hX
              go_wp2
              go_region_law (first
                | (refine step_app _ rfl (.const (.slice none 0 0)) (.tmp 53) 77 77 rfl elA (Own.nil _ _ _) rfl (HST.out _ _ (by first | assumption | exact Fr.alloc (by assumption) _ | exact ((Fr.refl _ _).alloc _).drew)) rfl HM.out.1 HM.out.2.1 ?_; intro v5 w5 ho5 hf5 hn5; rw [Nat.zero_add, List.nil_append] at ho5
                   have hq5 : Fr No wc w5 := Fr.trans (by first | assumption | exact Fr.alloc (by assumption) _ | exact ((Fr.refl _ _).alloc _).drew) (fr_at_none hf5)
                   have hc5 := HCELL.out _ hq5
                   have hqa5 := fun o => HCELL.out _ (hq5.alloc o)
                   have hB5 := hf5.block wc.heap.size
                   have hw5 : Newer wc.heap.size none v5.ownBlock := Newer.trans (.inl rfl) (Newer.of hn5) (by first | exact Nat.le_refl _ | (show wc.heap.size ≤ (wc.alloc _).heap.size; rw [World.size_alloc]; exact Nat.le_succ _)))
                | (refine step_app _ rfl (.tmp 54) (.tmp 58) 77 77 rfl elA ho5 rfl (Src.of_new wc.heap.size (by rw [hB5 (by show _ < (wc.alloc _).heap.size; rw [World.size_alloc]; exact Nat.lt_succ_self _) (fun h => by cases h)]; exact heap_alloc_new wc _) Tryz.underlying77 rfl (by simp [Value.oneCell'])) rfl HM.out.2.2.1 HM.out.2.2.2.1 ?_; intro v6 w6 ho6 hf6 hn6
                   have hq6 : Fr No wc w6 := fr_no hq5 hw5 hf6
                   have hw6 : Newer wc.heap.size none v6.ownBlock := Newer.trans hw5 (Newer.of hn6) hq5.size
                   have hc6 := HCELL.out _ hq6)
                | (refine step_app _ rfl (.tmp 54) (.tmp 58) 77 77 rfl elA (ho5.alloc _) rfl (Src.of_new w5.heap.size (heap_alloc_new _ _) Tryz.underlying77 rfl (by simp [Value.oneCell'])) rfl HM.out.2.2.1 HM.out.2.2.2.1 ?_; intro v6 w6 ho6 hf6 hn6
                   have hq6 : Fr No wc w6 := fr_no (hq5.alloc _) hw5 hf6
                   have hw6 : Newer wc.heap.size none v6.ownBlock := Newer.trans hw5 (Newer.of hn6) (Nat.le_trans hq5.size (by simp))
                   have hc6 := HCELL.out _ hq6)
                | (refine step_app _ rfl (.tmp 59) (.tmp 65) 77 77 rfl elA ho6 rfl (HSD.out _ _ hq6) rfl HM.out.2.2.2.2.1 HM.out.2.2.2.2.2 ?_; intro v7 w7 ho7 hf7 hn7
                   have hq7 : Fr No wc w7 := fr_no hq6 hw6 hf7
                   have hb7 := HBW.out.fr hq7 (fun h => h)
                   have k7 := hb7.cell 0
                   have z7 := hb7.frozen 0
                   simp only [List.getElem?_toArray, List.getElem?_cons_zero] at k7
                   obtain ⟨g, c7, cur7, rfl, hg7, hc7, hm7, _, _⟩ := ho7.formPos (by omega)))
              all_goals
                have HO7 := Lib.hid ho7
                have HB7 := Lib.hid hb7
                have HQ7 := Lib.hid hq7
                clear ho7 hb7 hq7 hg7
                go_wp2
                go_ret
                have hlen : k + 1 + (S.length - k) = (S.take k ++ (⟨s.data.toList, 0, 0, lim⟩ : Ac) :: S.drop k).length := by
                  rw [List.length_append, List.length_cons, List.length_take, List.length_drop]
                  omega
                refine HE.out 0 _ _ HN.out HP.out (rfs_mk hlen (HB7.out.set_ 0 _) hc7 hm7 ?_) (Fr.setCell (S := At1 q) (p := ⟨q, 0, none⟩) ((HFW.out.trans HQ7.out).mono fun _ _ h => False.elim h) (fun _ => rfl) _)
                have h8 := HO7.out.setCell (p := ⟨q, 0, none⟩) (HO7.out.ne_ HB7.out (by decide)) (.slice (some ⟨g, 0, none⟩) (k + 1 + (S.length - k)) c7)
                rw [acs_append]
                simpa [acs, acC, List.append_assoc] using h8
      · have HN : Hid (openE S s.data.toList lim = 7) := by show _ = _; rw [HOE.out, hg]; rfl
        clear hg hnm
        go_wp2
        go_ret
        exact HE1.out 7 (by decide) HN.out
end Go.Proofs.YtjbeaoabhhaiiaaGreat
