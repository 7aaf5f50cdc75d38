/- What accounts grow by together: the document's own Net. -/
import Derived.Test.YtpaeohmoecdniabVouS
import Derived.Test.YtpaeohmoecdniabVouN2
import Derived.Test.YtpaeohmoecdniabChartJ5
import Derived.Deep.RegionLaw
import Derived.Deep.RegionHeldLaw
import Derived.Deep.CutBlock
import Derived.Deep.DeepCutAuto
namespace Go.Proofs.Ytpaeohmoecdniab
open Go.RowKit Go.My Go.Maps
set_option linter.unusedSimpArgs false
set_option linter.unusedVariables false
attribute [local go_sem ↓] Go.wp_at_zero Go.wp_at_succ

theorem elS : El Try.prog 62 9 1 16 := ⟨Try.underlying62, by
  have h : (Try.prog.info? 9).map (fun i => (i.zero, i.size, i.bytes)) = some (some (.string ⟨#[]⟩), 1, 16) := by kernel_rfl
  obtain ⟨i, hi, hz, hs, hb⟩ := info_parts h
  exact ⟨i, _, hi, hz, hs, hb, rfl⟩, by omega⟩
/-- names as cells -/
def nmc (S : List Ac) : List Value := S.map fun a => .string ⟨a.name.toArray⟩
theorem nmc_length (S : List Ac) : (nmc S).length = S.length := by simp [nmc]
theorem nmc_ones (S : List Ac) : ∀ u ∈ nmc S, u.oneCell' = true := fun u hu => by
  unfold nmc at hu
  obtain ⟨a, _, rfl⟩ := List.mem_map.1 hu
  rfl
theorem nmc_append (S T : List Ac) : nmc (S ++ T) = nmc S ++ nmc T := by unfold nmc; rw [List.map_append]
theorem nmc_at {w : World} {F : Nat → Prop} {A : Option Addr} {S : List Ac} (h : Rd w F 1 A S.length (nmc S)) (k : Nat) (hk : k < S.length) : ∃ ad, A = some ad ∧ w.cell? (ad.add k) = some (.string ⟨S[k].name.toArray⟩) := by
  obtain ⟨ad, u, rfl, _, hx, hc⟩ := h.at_ hk
  unfold nmc at hx
  rw [List.getElem?_map, List.getElem?_eq_getElem hk] at hx
  injection hx with hx
  subst hx
  exact ⟨ad, rfl, hc⟩
def NmO (w2 : World) (S : List Ac) (nv : Value) (wr : World) : Prop := Own wr 9 1 nv S.length (nmc S) ∧ Fr No w2 wr ∧ Newer w2.heap.size none nv.ownBlock
def N1Rel (w2 : World) (Ls : List (List Lg)) (nv iv : Value) (wr : World) : Prop := ∃ i : Nat, i ≤ Ls.length ∧ iv = .int .i64 i ∧ NmO w2 (nmA (flatL (Ls.take i))) nv wr
def N2Rel (w2 : World) (P L : List Lg) (nv kv : Value) (wr : World) : Prop := ∃ k : Nat, k ≤ L.length ∧ kv = .int .i64 k ∧ NmO w2 (nmA (P ++ L.take k)) nv wr
def N3Rel (wo : World) (S : List Ac) (x : List UInt8) (jv : Value) (wr : World) : Prop := ∃ j : Nat, j ≤ S.length ∧ jv = .int .i64 j ∧ (∀ i (h : i < S.length), j ≤ i → bytesBefore x S[i].name = true) ∧ Fr No wo wr
def N3End (wo : World) (S : List Ac) (x : List UInt8) (jv : Value) (wr : World) : Prop := ∃ j : Nat, j ≤ S.length ∧ jv = .int .i64 j ∧ (∀ i (h : i < S.length), j ≤ i → bytesBefore x S[i].name = true) ∧ (∀ (_ : 0 < j) (h2 : j - 1 < S.length), bytesBefore x S[j - 1].name = false) ∧ Fr No wo wr
def N5Rel (wo : World) (F : List Lg) (ov iv : Value) (wr : World) : Prop := NlRel wo F ov iv wr
def N6Rel (wo : World) (Ls : List (List Lg)) (x : List UInt8) (sv iv : Value) (wr : World) : Prop := ∃ i : Nat, i ≤ Ls.length ∧ iv = .int .i64 i ∧ Own wr 2 1 sv (sumsOf (flatL (Ls.take i)) x).length (is_ (sumsOf (flatL (Ls.take i)) x)) ∧ Fr No wo wr ∧ Newer wo.heap.size none sv.ownBlock
def N7Rel (wo : World) (P L : List Lg) (x : List UInt8) (sv kv : Value) (wr : World) : Prop := ∃ k : Nat, k ≤ L.length ∧ kv = .int .i64 k ∧ Own wr 2 1 sv (sumsOf (P ++ L.take k) x).length (is_ (sumsOf (P ++ L.take k) x)) ∧ Fr No wo wr ∧ Newer wo.heap.size none sv.ownBlock
def SmO (wo : World) (F : List Lg) (x : List UInt8) (sv : Value) (wr : World) : Prop := Own wr 2 1 sv (sumsOf F x).length (is_ (sumsOf F x)) ∧ Fr No wo wr ∧ Newer wo.heap.size none sv.ownBlock
theorem take_snocL (P L : List Lg) {k : Nat} (hk : k < L.length) : P ++ L.take (k + 1) = (P ++ L.take k) ++ [L[k]] := by
  rw [List.take_succ_eq_append_getElem hk, List.append_assoc]

set_option maxRecDepth 100000 in
set_option maxHeartbeats 0 in
theorem refnet_any (A : Option Addr) (c : Nat) (Ls : List (List Lg)) (w : World) (h : LsS w A Ls) (hok : ∀ g ∈ flatL Ls, g.ok) (hl : Ls.length ≤ 100) (hL : (flatL Ls).length ≤ 1000) :
    Calls Try.prog 22 #[.slice A Ls.length c] w (RetLs w (netL (flatL Ls)) (netE (flatL Ls))) := by
  have HH := Lib.hid h
  have HOK := Lib.hid hok
  have HLOK : Hid (∀ i (hi : i < Ls.length), (∀ g ∈ Ls[i], g.ok) ∧ Ls[i].length ≤ 1000 ∧ (flatL (Ls.take i)).length ≤ 1000 ∧ (flatL (Ls.take i)).length + Ls[i].length ≤ 1000 ∧ ∀ g ∈ flatL (Ls.take i), g.ok) := fun i hi => by
    refine ⟨fun g hg => hok g (by unfold flatL; exact List.mem_flatten.2 ⟨_, List.getElem_mem hi, hg⟩), ?_, ?_, ?_, fun g hg => hok g (by
      unfold flatL at hg ⊢
      obtain ⟨M, hM, hgM⟩ := List.mem_flatten.1 hg
      exact List.mem_flatten.2 ⟨M, List.mem_of_mem_take hM, hgM⟩)⟩
    all_goals
      have h1 := flat_le (Ls := Ls) (i + 1)
      rw [flat_take hi, List.length_append] at h1
      omega
  have HTK : Hid (∀ i (hi : i < Ls.length), flatL (Ls.take (i + 1)) = flatL (Ls.take i) ++ Ls[i]) := fun i hi => flat_take hi
  clear h hok
  go_enter Try.func22, Try.ntmps22
  go_upto_block 0 with (fail)
  go_cut [4] (fun a4 wx => NmO w (nmA (flatL Ls)) a4 wx)
  case first =>
    go_wp2_with fail
    go_loopw [4, 5] (fun nv iv wr => N1Rel w Ls nv iv wr) (fun _ iv _ => Ls.length - (intOf iv).toNat)
    case atStart => exact ⟨0, Nat.zero_le _, rfl, Own.nil _ _ _, Fr.refl _ _, .inl rfl⟩
    case round =>
      obtain ⟨i, hi, rfl, hnm⟩ := hrel
      by_cases hlt : i < Ls.length
      · obtain ⟨hgL, hlL, hlP, hlPL, hgP⟩ := HLOK.out i hlt
        have HGP := Lib.hid hgP
        have hLs : ∀ W, Fr No w W → ∃ ad A' c', A = some ad ∧ W.cell? (ad.add i) = some (.slice A' Ls[i].length c') ∧ Rd W Any 2 A' Ls[i].length (lgs Ls[i]) := fun W hW => (HH.out.fr hW).at_ i hlt
        have HLs := Lib.hid hLs
        have HGL := Lib.hid hgL
        have HT1 := Lib.hid (HTK.out i hlt)
        have HNM := Lib.hid hnm
        clear hgL hnm hLs hgP
        generalize Ls[i] = L at *
        generalize flatL (Ls.take i) = P at *
        obtain ⟨wo, rfl⟩ : ∃ wo : World, wo = wr := ⟨_, rfl⟩
        go_wp2_with fail
        go_loopw [4, 6] (fun nv kv ws => N2Rel w P L nv kv ws) (fun _ kv _ => L.length - (intOf kv).toNat)
        case atStart => exact ⟨0, Nat.zero_le _, rfl, by rw [List.take_zero, List.append_nil]; exact HNM.out⟩
        case round =>
          obtain ⟨k, hk, rfl, hown, hfr, hnew⟩ := hrel
          obtain ⟨ad, A', c', rfl, q0, hrL⟩ := HLs.out _ hfr
          by_cases hkl : k < L.length
          · obtain ⟨gd, rfl, _, hgok, p0, _⟩ := lg_get _ hrL HGL.out k hkl
            have HCL : Hid (∀ W, Fr No wr W → Fr No wr W ∧ W.cell? (ad.add i) = some (.slice (some gd) L.length c') ∧ W.cell? (gd.add (k * 2)) = some (.string L[k].acct)) := fun W hW => ⟨hW, hW.cell_some q0 (fun h => h), hW.cell_some p0 (fun h => h)⟩
            have ES : Hid (nmA (P ++ L.take (k + 1)) = putA (nm0 L[k].nm) (nmA (P ++ L.take k))) := by
              show _ = _
              rw [take_snocL P L hkl, nmA_snoc]
            have hSl := nmA_length (P ++ L.take k)
            rw [List.length_append, List.length_take] at hSl
            have HRI := Lib.hid (rise_nmA (P ++ L.take k))
            have HN0 : Hid (∀ a ∈ nmA (P ++ L.take k), a = nm0 a.name) := fun a ha => nmA_nm0 ha
            have hnl : ∀ a ∈ nmA (P ++ L.take k), a.name.length ≤ maxLen := fun a ha => by
              obtain ⟨g, hg, he⟩ := (mem_nmA _ _).1 ha
              rw [he]
              have hgg : g.ok := by
                rcases List.mem_append.1 hg with h | h
                · exact HGP.out g h
                · exact HGL.out g (List.mem_of_mem_take h)
              have := hgg.1
              simpa [nm0, Lg.nm] using this
            have HNL := Lib.hid hnl
            generalize nmA (P ++ L.take k) = S at *
            have HGN : Hid (L[k].acct.size ≤ maxLen) := hgok.1
            generalize L[k] = g at *
            obtain ⟨nm, sm⟩ := g
            unfold Lg.nm at ES
            simp only at p0 HCL ES HGN
            obtain ⟨lo, hlo, hlo2⟩ : ∃ lo : List UInt8, nm = ⟨lo.toArray⟩ ∧ nm.data.toList = lo := ⟨nm.data.toList, by simp, rfl⟩
            rw [hlo2] at ES
            subst hlo
            obtain ⟨An, cn, rfl, hnc, hncm⟩ := hown.form
            have HOWN := Lib.hid hown
            have HFR := Lib.hid hfr
            have HNEW := Lib.hid hnew
            obtain ⟨w3, rfl⟩ : ∃ w3 : World, w3 = wr := ⟨_, rfl⟩
            clear hown hfr hnew hrL hgok hnl hlo2
            go_upto_block 4 with (fail)
            clear q0 p0
            go_cut [7] (fun a7 wx => N3End w3 S lo a7 wx)
            case first =>
              go_wp2_with fail
              go_loopw [7] (fun jv ws => N3Rel w3 S lo jv ws) (fun jv _ => (intOf jv).toNat)
              case atStart => exact ⟨S.length, Nat.le_refl _, rfl, fun i h h' => absurd h' (by omega), Fr.refl _ _⟩
              case round =>
                obtain ⟨j, hj, rfl, hall, hfr⟩ := hrel
                have HALL := Lib.hid hall
                have HFR3 := Lib.hid hfr
                obtain ⟨_, q0, p0⟩ := HCL.out _ hfr
                clear hall hfr
                by_cases hj0 : 0 < j
                · obtain ⟨j1, hj1⟩ : ∃ j1, j = j1 + 1 := ⟨j - 1, by omega⟩
                  have hjl : j1 < S.length := by omega
                  obtain ⟨sd, rfl, r0⟩ := nmc_at (HOWN.out.rd.fr (by omega) HFR3.out (fun _ _ _ h => h)) j1 hjl
                  have hjj : (j : Int) - 1 = (j1 : Int) := by omega
                  have hgt : (0 : Int) < (j : Int) := by omega
                  have hd0 : decide ((0 : Int) < (j : Int)) = true := decide_eq_true hgt
                  have hwj : IntKind.i64.wrap ((j : Int) - 1) = (j1 : Int) := by rw [hjj]; exact IntWalk.i64_in _ (by omega)
                  have hsz : (⟨S[j1].name.toArray⟩ : ByteArray).size ≤ maxLen := by
                    show S[j1].name.toArray.size ≤ _
                    simpa using HNL.out _ (List.getElem_mem hjl)
                  have HAH : Hid (∀ n, Calls Try.prog 49 #[.string ⟨lo.toArray⟩, .string ⟨S[j1].name.toArray⟩] (wr.drewN n) fun e w' => e = .returned (.bool (bytesBefore lo S[j1].name)) ∧ ∃ m, w' = (wr.drewN n).drewN m) := fun n => refahead_any ⟨lo.toArray⟩ ⟨S[j1].name.toArray⟩ (wr.drewN n) HGN.out hsz
                  cases hbf : bytesBefore lo S[j1].name with
                  | true =>
                    have HNX : Hid (∀ i (h : i < S.length), j1 ≤ i → bytesBefore lo S[i].name = true) := fun i h hji => by
                      rcases Nat.eq_or_lt_of_le hji with e | e
                      · subst e; exact hbf
                      · exact HALL.out i h (by omega)
                    rw [hbf] at HAH
                    generalize S[j1].name.toArray = nj at *
                    have HJ1 := Lib.hid hj1
                    clear hbf hsz hj1
                    go_wp2_with fail
                    go_quiet ((go_at_call 49; exact Calls.quiet_of (HAH.out _)))
                    clear hwj
                    go_wp2
                    go_roundw
                    case rel => exact ⟨j1, by omega, by first | rfl | go_num, HNX.out, HFR3.out.drewN _⟩
                    case measure => simp [intOf]; omega
                  | false =>
                    have HNX : Hid (∀ (_ : 0 < j) (h2 : j - 1 < S.length), bytesBefore lo S[j - 1].name = false) := fun _ h2 => by
                      subst hj1
                      exact hbf
                    rw [hbf] at HAH
                    generalize S[j1].name.toArray = nj at *
                    clear hbf hsz hj1
                    go_wp2_with fail
                    go_quiet ((go_at_call 49; exact Calls.quiet_of (HAH.out _)))
                    go_wp2
                    go_meet
                    exact ⟨j, hj, rfl, HALL.out, HNX.out, HFR3.out.drewN _⟩
                · have hgt : ¬ (0 : Int) < (j : Int) := by omega
                  have hd0 : decide ((0 : Int) < (j : Int)) = false := decide_eq_false hgt
                  have hd1 : decide (0 < j) = false := decide_eq_false hj0
                  have HNX : Hid (∀ (_ : 0 < j) (h2 : j - 1 < S.length), bytesBefore lo S[j - 1].name = false) := fun h _ => absurd h hj0
                  clear hj0
                  go_wp2_with fail
                  go_quiet (fail)
                  go_wp2
                  go_meet
                  exact ⟨j, hj, rfl, HALL.out, HNX.out, HFR3.out.drewN _⟩
            case rest =>
              obtain ⟨j, hj, rfl, hall, hno, hfr⟩ := hcut
              obtain ⟨_, q0, p0⟩ := HCL.out _ hfr
              obtain ⟨w4, rfl⟩ : ∃ w4 : World, w4 = wc := ⟨_, rfl⟩
              have HF4 := Lib.hid hfr
              have HO4 := Lib.hid (HOWN.out.fr hfr (fun _ _ h => h))
              have HCL4 : Hid (∀ W, Fr No w4 W → W.cell? (ad.add i) = some (.slice (some gd) L.length c') ∧ W.cell? (gd.add (k * 2)) = some (.string ⟨lo.toArray⟩)) := fun W hW => (HCL.out W (hfr.trans hW)).2
              clear hfr
              by_cases hthere : 0 < j ∧ ∃ h2 : j - 1 < S.length, S[j - 1].name = lo
              · obtain ⟨hj0, h2, hnm⟩ := hthere
                have EP : Hid (putA (nm0 lo) S = S) := put_there HRI.out h2 (by rw [HN0.out _ (List.getElem_mem h2), hnm])
                obtain ⟨sd, rfl, r0⟩ := nmc_at (HO4.out.rd) (j - 1) h2
                have hjz : ((j : Int) == 0) = false := beq_eq_false_iff_ne.2 (by omega)
                have hjz' : (j == 0) = false := beq_eq_false_iff_ne.2 (by omega)
                have hjj : (j : Int) - 1 = ((j - 1 : Nat) : Int) := by omega
                have hwj : IntKind.i64.wrap ((j : Int) - 1) = ((j - 1 : Nat) : Int) := by rw [hjj]; exact IntWalk.i64_in _ (by omega)
                have hj1 : ((j : Int) - 1).toNat = j - 1 := by omega
                have hj2 : (1 : Int) ≤ (j : Int) := by omega
                rw [hnm] at r0
                rw [EP.out] at ES
                clear hall hno hnm
                generalize j - 1 = j1 at *
                go_wp2_with fail
                go_quiet (fail)
                clear hwj hjj hj1
                go_wp2
                go_roundw
                case rel => exact ⟨k + 1, by omega, by go_num, by rw [ES.out]; exact ⟨HO4.out.drewN _, (HFR.out.trans HF4.out).drewN _, HNEW.out⟩⟩
                case measure => simp [intOf]; omega
              · have hne : ∀ (h0 : 0 < j) (h2 : j - 1 < S.length), S[j - 1].name ≠ lo := fun h0 h2 e => hthere ⟨h0, h2, e⟩
                have EP : Hid (putA (nm0 lo) S = S.take j ++ nm0 lo :: S.drop j) := put_new HRI.out hj hall (fun h h2 => ⟨hno h h2, hne h h2⟩)
                rw [EP.out] at ES
                go_upto_region 11 with (fail)
                go_cut [69] (fun a69 wx => a69 = .bool true ∧ Fr No w4 wx)
                case first =>
                  go_wp2_with fail
                  by_cases hj0 : 0 < j
                  · have h2 : j - 1 < S.length := by omega
                    obtain ⟨sd, rfl, r0⟩ := nmc_at (HO4.out.rd) (j - 1) h2
                    have hjz : ((j : Int) == 0) = false := beq_eq_false_iff_ne.2 (by omega)
                    have hjz' : (j == 0) = false := beq_eq_false_iff_ne.2 (by omega)
                    have hjj : (j : Int) - 1 = ((j - 1 : Nat) : Int) := by omega
                    have hwj : IntKind.i64.wrap ((j : Int) - 1) = ((j - 1 : Nat) : Int) := by rw [hjj]; exact IntWalk.i64_in _ (by omega)
                    have hj1 : ((j : Int) - 1).toNat = j - 1 := by omega
                    have hj2 : (1 : Int) ≤ (j : Int) := by omega
                    have hnn := hne hj0 h2
                    generalize S[j - 1].name = ln at *
                    generalize j - 1 = j1 at *
                    have hz1 : (ln != lo) = true := by rw [bne_iff_ne]; exact hnn
                    have hz0 : (ln == lo) = false := beq_eq_false_iff_ne.2 hnn
                    have hz2 : ((⟨ln.toArray⟩ : ByteArray).toList == (⟨lo.toArray⟩ : ByteArray).toList) = false := by rw [ByteArray.toList_eq, ByteArray.toList_eq]; exact hz0
                    clear hall hno hne hthere hnn
                    go_quiet (fail)
                    go_wp2
                    go_meet
                    exact ⟨rfl, (Fr.refl No w4).drewN _⟩
                  · have hjz : ((j : Int) == 0) = true := by simp; omega
                    have hjz' : (j == 0) = true := by simp; omega
                    clear hall hno hne hthere hj0
                    go_quiet (fail)
                    go_wp2
                    go_meet
                    exact ⟨rfl, (Fr.refl No w4).drewN _⟩
                case rest =>
                  obtain ⟨rfl, hf5⟩ := hcut
                  obtain ⟨w5, rfl⟩ : ∃ w5 : World, w5 = wc := ⟨_, rfl⟩
                  have HO5 := Lib.hid (HO4.out.fr hf5 (fun _ _ h => h))
                  have HF5 := Lib.hid hf5
                  have HCL5 : Hid (∀ W, Fr No w5 W → W.cell? (ad.add i) = some (.slice (some gd) L.length c') ∧ W.cell? (gd.add (k * 2)) = some (.string ⟨lo.toArray⟩)) := fun W hW => HCL4.out W (hf5.trans hW)
                  have hrd := HO5.out.rd
                  have hrdT : Rd w5 (fun k' => (Value.slice An S.length cn).ownBlock = some k') 1 An j (nmc (S.take j)) := by
                    have := hrd.take hj
                    rw [Nat.mul_one] at this
                    unfold nmc at this ⊢
                    rwa [List.map_take]
                  obtain ⟨X, hX⟩ : ∃ X, X = if cn = j then An else An.map (·.add j) := ⟨_, rfl⟩
                  have hrdD : Rd w5 (fun k' => (Value.slice An S.length cn).ownBlock = some k') 1 X (S.length - j) (nmc (S.drop j)) := by
                    have := hrd.cut (cap := cn) hj hnc
                    rw [Nat.mul_one] at this
                    rw [hX]
                    unfold nmc at this ⊢
                    rwa [List.map_drop]
                  have HST : Hid (∀ W c', Fr No w5 W → Src Try.prog W 1 62 (.slice An j c') j (nmc (S.take j))) := fun W c' hW => Src.of_rd (hrdT.fr (by omega) hW fun _ _ _ h => h) (nmc_ones _) Try.underlying62
                  have HSD : Hid (∀ W c', Fr No w5 W → Src Try.prog W 1 62 (.slice X (S.length - j) c') (S.length - j) (nmc (S.drop j))) := fun W c' hW => Src.of_rd (hrdD.fr (by omega) hW fun _ _ _ h => h) (nmc_ones _) Try.underlying62
                  have hjc : j ≤ cn := by omega
                  have HMX : Hid (0 + j ≤ maxLen ∧ (0 + j) * 16 ≤ 140737488355328 ∧ j + 1 ≤ maxLen ∧ (j + 1) * 16 ≤ 140737488355328 ∧ j + 1 + (S.length - j) ≤ maxLen ∧ (j + 1 + (S.length - j)) * 16 ≤ 140737488355328) := by
                    refine ⟨?_, ?_, ?_, ?_, ?_, ?_⟩ <;> (try simp only [maxLen]) <;> omega
                  have HLN : Hid (j + 1 + (S.length - j) = (nmA (P ++ L.take (k + 1))).length ∧ nmc (S.take j) ++ [.string ⟨lo.toArray⟩] ++ nmc (S.drop j) = nmc (nmA (P ++ L.take (k + 1)))) := by
                    rw [ES.out, nmc_append, List.length_append, List.length_cons, List.length_take, List.length_drop]
                    refine ⟨by omega, ?_⟩
                    rw [List.append_assoc]
                    rfl
                  have HFW : Hid (Fr No w w5) := HFR.out.trans (HF4.out.trans hf5)
                  obtain ⟨q0, p0⟩ := HCL5.out _ (Fr.refl No w5)
                  unfold maxLen at hncm
                  clear hall hno hne hthere hrd hrdT hrdD hf5
                  have hdd : Fr No w5 w5.drew := (Fr.refl _ _).drew
                  have HKP : Hid (∀ W, Fr No w5 W → (Fr No w5 W ∧ W.cell? (ad.add i) = some (.slice (some gd) L.length c') ∧ W.cell? (gd.add (k * 2)) = some (.string ⟨lo.toArray⟩))) := fun W hW => ⟨hW, HCL5.out W hW⟩
                  go_upto_region 12 with (fail)
                  by_cases hck : cn = j
                  focus
                    subst hck
                    rw [if_pos rfl] at hX
                    have hz0 : S.length - cn = 0 := by omega
                    rw [hz0] at HSD HMX HLN
                    clear hz0
                  rotate_left
                  focus rw [if_neg hck] at hX
                  all_goals
                    subst hX
                    go_region_held_law (fun W => Fr No w5 W ∧ W.cell? (ad.add i) = some (.slice (some gd) L.length c') ∧ W.cell? (gd.add (k * 2)) = some (.string ⟨lo.toArray⟩))
                      (exact HKP.out _ (by first | assumption | exact Fr.alloc (by assumption) _ | exact ((Fr.refl _ _).alloc _).drew)) (first
                      | (refine step_app _ rfl (.const (.slice none 0 0)) (.tmp 72) 62 62 rfl elS (Own.nil _ _ _) rfl (HST.out _ _ (by first | assumption | exact Fr.alloc (by assumption) _ | exact ((Fr.refl _ _).alloc _).drew)) rfl HMX.out.1 HMX.out.2.1 ?_; intro v6 w6 ho6 hf6 hn6; rw [Nat.zero_add, List.nil_append] at ho6
                         have hq6 : Fr No w5 w6 := Fr.trans (by first | assumption | exact Fr.alloc (by assumption) _ | exact ((Fr.refl _ _).alloc _).drew) (fr_at_none hf6)
                         have hB6 := hf6.block w5.heap.size
                         have hw6 : Newer w5.heap.size none v6.ownBlock := Newer.trans (.inl rfl) (Newer.of hn6) (by first | exact Nat.le_refl _ | (show w5.heap.size ≤ (w5.alloc _).heap.size; rw [World.size_alloc]; exact Nat.le_succ _)))
                      | (refine step_app _ rfl (.tmp 73) (.tmp 82) 62 62 rfl elS ho6 rfl (Src.of_new w5.heap.size (by rw [hB6 (by show _ < (w5.alloc _).heap.size; rw [World.size_alloc]; exact Nat.lt_succ_self _) (fun h => by cases h)]; exact heap_alloc_new w5 _) Try.underlying62 rfl (by simp [Value.oneCell'])) rfl HMX.out.2.2.1 HMX.out.2.2.2.1 ?_; intro v7 w7 ho7 hf7 hn7
                         have hq7 : Fr No w5 w7 := fr_no hq6 hw6 hf7
                         have hw7 : Newer w5.heap.size none v7.ownBlock := Newer.trans hw6 (Newer.of hn7) hq6.size)
                      | (refine step_app _ rfl (.tmp 73) (.tmp 82) 62 62 rfl elS (ho6.alloc _) rfl (Src.of_new w6.heap.size (heap_alloc_new _ _) Try.underlying62 rfl (by simp [Value.oneCell'])) rfl HMX.out.2.2.1 HMX.out.2.2.2.1 ?_; intro v7 w7 ho7 hf7 hn7
                         have hq7 : Fr No w5 w7 := fr_no (hq6.alloc _) hw6 hf7
                         have hw7 : Newer w5.heap.size none v7.ownBlock := Newer.trans hw6 (Newer.of hn7) (Nat.le_trans hq6.size (by simp)))
                      | (refine step_app _ rfl (.tmp 83) (.tmp 86) 62 62 rfl elS ho7 rfl (HSD.out _ _ hq7) rfl HMX.out.2.2.2.2.1 HMX.out.2.2.2.2.2 ?_; intro v8 w8 ho8 hf8 hn8
                         have hq8 : Fr No w5 w8 := fr_no hq7 hw7 hf8
                         have HN8 : Hid (NmO w (nmA (P ++ L.take (k + 1))) v8 w8) := ⟨by rw [← HLN.out.1, ← HLN.out.2]; exact ho8, HFW.out.trans (fr_no hq7 hw7 hf8), Newer.trans (.inl rfl) (hw7.trans (Newer.of hn8) hq7.size) HFW.out.size⟩))
                    all_goals
                      have HN9 := Lib.hid HN8.out
                      clear ho6 ho7 ho8 hf6 hf7 hf8 hn6 hn7 hn8 hq6 hq7 hw6 hw7 hB6 HN8 q0 p0 hq8
                      go_wp2
                      go_roundw
                      case rel => exact ⟨k + 1, by omega, by go_num, HN9.out⟩
                      case measure => simp [intOf]; omega
          · obtain rfl : k = L.length := by omega
            rw [List.take_length] at hown
            have HG : Hid (NmO w (nmA (P ++ L)) _ wr) := ⟨hown, hfr, hnew⟩
            rw [← HT1.out] at HG
            clear hown hfr hnew
            go_wp2
            go_roundw
            case rel => exact ⟨i + 1, by omega, by go_num, HG.out⟩
            case measure => simp [intOf]; omega
      · obtain rfl : i = Ls.length := by omega
        rw [List.take_length] at hnm
        have HNM := Lib.hid hnm
        clear hnm
        go_wp2
        go_meet
        exact HNM.out
  case rest =>
    obtain ⟨hown, hfr, hnew⟩ := hcut
    obtain ⟨An, cn, rfl, _, _⟩ := hown.form
    obtain ⟨w3, rfl⟩ : ∃ w3 : World, w3 = wc := ⟨_, rfl⟩
    have HF3 := Lib.hid hfr
    have HNM := Lib.hid hown.rd
    have HS3 := Lib.hid (HH.out.fr hfr)
    have hno := nmA_length (flatL Ls)
    clear hown hfr hnew
    obtain ⟨F, hF⟩ : ∃ F, flatL Ls = F := ⟨_, rfl⟩
    have HFL := Lib.hid hF
    rw [hF] at HNM hno HOK hL ⊢
    clear hF
    go_wp2_with fail
    go_loopw [8, 9] (fun lv iv wr => NlRel w3 F lv iv wr) (fun _ iv _ => (nmA F).length - (intOf iv).toNat)
    case atStart => exact ⟨0, Nat.zero_le _, rfl, Own.nil _ _ _, Fr.refl _ _, .inl rfl, fun a ha => by simp at ha⟩
    case round =>
      obtain ⟨k, hk, rfl, hown, hfr, hnew, hin⟩ := hrel
      by_cases hlt : k < (nmA F).length
      · have hmem : (nmA F)[k] ∈ nmA F := List.getElem_mem hlt
        have HNX : Hid (In64 (total (sumsOf F (nmA F)[k].name)) → ∀ a ∈ (nmA F).take (k + 1), In64 (total (sumsOf F a.name))) := nl_next hlt hin
        have HBAD : Hid (¬ In64 (total (sumsOf F (nmA F)[k].name)) → netE F = 2 ∧ netL F = []) := netE_bad hmem
        have E : Hid (netsOf F ((nmA F).take (k + 1)) = netsOf F ((nmA F).take k) ++ if total (sumsOf F (nmA F)[k].name) = 0 then [] else [⟨⟨(nmA F)[k].name.toArray⟩, total (sumsOf F (nmA F)[k].name)⟩]) := netsOf_snoc F hlt
        have hnl := netsOf_le F ((nmA F).take k)
        rw [List.length_take] at hnl
        have HNC : Hid (∀ W, Fr No w3 W → ∃ sd, An = some sd ∧ W.cell? (sd.add k) = some (.string ⟨(nmA F)[k].name.toArray⟩)) := fun W hW => nmc_at (HNM.out.fr (by omega) hW fun _ _ _ h => h) k hlt
        obtain ⟨wo, rfl⟩ : ∃ wo : World, wo = wr := ⟨_, rfl⟩
        have HOWN := Lib.hid hown
        have HFR := Lib.hid hfr
        have HNEW := Lib.hid hnew
        clear hown hfr hnew hin hmem
        generalize (nmA F)[k].name = x at *
        go_upto_block 8 with (fail)
        go_cut [10] (fun a10 wx => SmO wo F x a10 wx)
        case first =>
          go_wp2_with fail
          go_loopw [10, 11] (fun sv iv ws => N6Rel wo Ls x sv iv ws) (fun _ iv _ => Ls.length - (intOf iv).toNat)
          case atStart => exact ⟨0, Nat.zero_le _, rfl, Own.nil _ _ _, Fr.refl _ _, .inl rfl⟩
          case round =>
            obtain ⟨i, hi, rfl, hown, hfr, hnew⟩ := hrel
            by_cases hil : i < Ls.length
            · obtain ⟨hgL, hlL, hlP, hlPL, _⟩ := HLOK.out i hil
              have HLs : Hid (∀ W, Fr No wo W → ∃ ad A' c', A = some ad ∧ W.cell? (ad.add i) = some (.slice A' Ls[i].length c') ∧ Rd W Any 2 A' Ls[i].length (lgs Ls[i])) := fun W hW => (HS3.out.fr (HFR.out.trans hW)).at_ i hil
              have HGL := Lib.hid hgL
              have HT1 := Lib.hid (HTK.out i hil)
              have HO1 := Lib.hid hown
              have HF1 := Lib.hid hfr
              have HN1 := Lib.hid hnew
              clear hown hfr hnew hgL
              generalize Ls[i] = L at *
              generalize flatL (Ls.take i) = P at *
              go_wp2_with fail
              go_loopw [10, 12] (fun sv kv ws => N7Rel wo P L x sv kv ws) (fun _ kv _ => L.length - (intOf kv).toNat)
              case atStart => exact ⟨0, Nat.zero_le _, rfl, by rw [List.take_zero, List.append_nil]; exact HO1.out, HF1.out, HN1.out⟩
              case round =>
                obtain ⟨m, hm, rfl, hown, hfr, hnew⟩ := hrel
                obtain ⟨ad, A', c', rfl, q0, hrL⟩ := HLs.out _ hfr
                by_cases hml : m < L.length
                · obtain ⟨gd, rfl, _, _, p0, p1⟩ := lg_get _ hrL HGL.out m hml
                  obtain ⟨sd, rfl, r0⟩ := HNC.out _ (HFR.out.trans hfr)
                  have ES : Hid (sumsOf (P ++ L.take (m + 1)) x = sumsOf (P ++ L.take m) x ++ if L[m].nm = x then [L[m].sum] else []) := by
                    show _ = _
                    rw [take_snocL P L hml, sumsOf_snoc]
                  have hsl := sumsOf_length (P ++ L.take m) x
                  rw [List.length_append, List.length_take] at hsl
                  generalize sumsOf (P ++ L.take m) x = zs at *
                  have HOW := Lib.hid hown
                  have HFW := Lib.hid hfr
                  have HNW := Lib.hid hnew
                  generalize L[m] = g at *
                  obtain ⟨nm, sm⟩ := g
                  unfold Lg.nm at ES
                  simp only at p0 p1 ES
                  obtain ⟨lo, hlo, hlo2⟩ : ∃ lo : List UInt8, nm = ⟨lo.toArray⟩ ∧ nm.data.toList = lo := ⟨nm.data.toList, by simp, rfl⟩
                  rw [hlo2] at ES
                  subst hlo
                  clear hown hfr hnew hrL hlo2
                  by_cases hn : lo = x
                  · subst hn
                    rw [if_pos rfl] at ES
                    have E2 : Hid (is_ (sumsOf (P ++ L.take (m + 1)) lo) = is_ zs ++ [.int .i64 sm] ∧ (sumsOf (P ++ L.take (m + 1)) lo).length = zs.length + 1) := by
                      rw [ES.out, is_append]
                      exact ⟨rfl, by simp⟩
                    have hX : Hid (zs.length + 1 ≤ maxLen ∧ (zs.length + 1) * 8 ≤ 140737488355328) := by
                      refine ⟨?_, ?_⟩ <;> (try simp only [maxLen]) <;> omega
                    go_wp2_with fail
                    go_quiet (fail)
                    go_wp2_with (at_builtin; refine wpList_app _ rfl (.tmp 122) (.tmp 131) 58 58 rfl elI ((HOW.out.drewN _).alloc _) rfl (Src.of_new wr.heap.size (heap_alloc_new _ _) Try.underlying58 rfl (by simp [Value.oneCell'])) rfl hX.out.1 hX.out.2 ?_; intro v5 w5 ho5 hf5 hn5)
                    go_roundw
                    case rel =>
                      refine ⟨m + 1, by omega, by go_num, ?_, fr_no ((HFW.out.drewN _).alloc _) HNW.out hf5, HNW.out.trans (Newer.of hn5) (by have := HFW.out.size; simp; omega)⟩
                      rw [E2.out.1, E2.out.2]
                      exact ho5
                    case measure => simp [intOf]; omega
                  · have hz0 : (lo == x) = false := beq_eq_false_iff_ne.2 hn
                    have hz1 : (lo != x) = true := by rw [bne_iff_ne]; exact hn
                    have hz2 : ((⟨lo.toArray⟩ : ByteArray).toList == (⟨x.toArray⟩ : ByteArray).toList) = false := by rw [ByteArray.toList_eq, ByteArray.toList_eq]; exact hz0
                    rw [if_neg hn, List.append_nil] at ES
                    clear hn
                    go_wp2_with fail
                    go_quiet (fail)
                    go_wp2
                    go_roundw
                    case rel => exact ⟨m + 1, by omega, by go_num, by rw [ES.out]; exact HOW.out.drewN _, HFW.out.drewN _, HNW.out⟩
                    case measure => simp [intOf]; omega
                · obtain rfl : m = L.length := by omega
                  rw [List.take_length, ← HT1.out] at hown
                  have HOW := Lib.hid hown
                  have HFW := Lib.hid hfr
                  have HNW := Lib.hid hnew
                  clear hown hfr hnew
                  go_wp2
                  go_roundw
                  case rel => exact ⟨i + 1, by omega, by go_num, HOW.out, HFW.out, HNW.out⟩
                  case measure => simp [intOf]; omega
            · obtain rfl : i = Ls.length := by omega
              rw [List.take_length, HFL.out] at hown
              have HSM : Hid (SmO wo F x _ wr) := ⟨hown, hfr, hnew⟩
              clear hown hfr hnew
              go_wp2
              go_meet
              exact HSM.out
        case rest =>
          obtain ⟨hsm, hfs, _⟩ := hcut
          obtain ⟨As, cs, rfl, _, _⟩ := hsm.form
          obtain ⟨w4, rfl⟩ : ∃ w4 : World, w4 = wc := ⟨_, rfl⟩
          have hsl := sumsOf_length F x
          have HTT := Lib.hid (reftotal_any As cs (sumsOf F x) w4 ((hsm.rd.lt (by omega)).more fun _ h => h.2) (sumsOf_in HOK.out _) (by omega))
          have HF4 := Lib.hid (HFR.out.trans hfs)
          have HO4 := Lib.hid (HOWN.out.fr hfs (fun _ _ h => h))
          clear hsm hfs
          generalize total (sumsOf F x) = tt at *
          generalize hsn : (sumsOf F x).length = sn at *
          clear hsn
          by_cases h64 : In64 tt
          · have HN := Lib.hid (HNX.out h64)
            rw [two64_in h64] at HTT
            clear h64 HNX HBAD
            go_wp2_with fail
            refine HTT.out.mono ?_
            rintro e w5 ⟨rfl, hb5⟩
            have hf5 : Fr No w4 w5 := Fr.of_below hb5 _
            have HF5 := Lib.hid (HF4.out.trans hf5)
            have HO5 := Lib.hid (HO4.out.fr hf5 (fun _ _ h => h))
            obtain ⟨sd, rfl, r0⟩ := HNC.out _ HF5.out
            clear hb5 hf5
            by_cases h0 : tt = 0
            · subst h0
              have E2 : Hid (netsOf F ((nmA F).take (k + 1)) = netsOf F ((nmA F).take k)) := by show _ = _; rw [E.out, if_pos rfl, List.append_nil]
              go_wp2
              go_roundw
              case rel => exact ⟨k + 1, by omega, by go_num, by rw [E2.out]; exact HO5.out, HF5.out, HNEW.out, HN.out⟩
              case measure => simp [intOf]; omega
            · have hz : (tt != 0) = true := by rw [bne_iff_ne]; exact h0
              have E2 : Hid (netsOf F ((nmA F).take (k + 1)) = netsOf F ((nmA F).take k) ++ [⟨⟨x.toArray⟩, tt⟩]) := by show _ = _; rw [E.out, if_neg h0]
              have E3 : Hid (lgs (netsOf F ((nmA F).take (k + 1))) = lgs (netsOf F ((nmA F).take k)) ++ [.string ⟨x.toArray⟩, .int .i64 tt] ∧ (netsOf F ((nmA F).take (k + 1))).length = (netsOf F ((nmA F).take k)).length + 1) := by
                rw [E2.out, lgs_append]
                exact ⟨rfl, by simp⟩
              have hX : Hid ((netsOf F ((nmA F).take k)).length + 1 ≤ maxLen ∧ ((netsOf F ((nmA F).take k)).length + 1) * 24 ≤ 140737488355328) := by
                refine ⟨?_, ?_⟩ <;> (try simp only [maxLen]) <;> omega
              clear h0
              go_wp2_with (at_builtin; refine wpList_app _ rfl (.tmp 143) (.tmp 150) 23 23 rfl elL (HO5.out.alloc _) rfl (Src.of_new w5.heap.size (heap_alloc_new w5 _) Try.underlying23 rfl (by simp [Value.oneCell'])) rfl hX.out.1 hX.out.2 ?_; intro v1 w6 hown6 hfr6 hnew6)
              go_roundw
              case rel =>
                refine ⟨k + 1, by omega, by go_num, ?_, fr_no (HF5.out.alloc _) HNEW.out hfr6, HNEW.out.trans (Newer.of hnew6) (by have := HF5.out.size; simp; omega), HN.out⟩
                rw [E3.out.1, E3.out.2]
                exact hown6
              case measure => simp [intOf]; omega
          · have HB := Lib.hid (HBAD.out h64)
            rw [two64_out h64] at HTT
            clear h64 HNX HBAD
            go_wp2_with fail
            refine HTT.out.mono ?_
            rintro e w5 ⟨rfl, hb5⟩
            have HF5 : Hid (Fr No w3 w5) := HF4.out.trans (Fr.of_below hb5 _)
            clear hb5
            go_wp2
            go_ret2
            rw [HFL.out, HB.out.1, HB.out.2]
            exact RetLs.nil (HF3.out.trans HF5.out) 2
      · obtain rfl : k = (nmA F).length := by omega
        rw [List.take_length] at hown hin
        obtain ⟨A4, c4, rfl, _, _⟩ := hown.form
        have HRT : Hid (RetLs w (netL F) (netE F) (.returned (.tuple #[.slice A4 (netsOf F (nmA F)).length c4, .int .i64 0])) wr) := by
          rw [netE_ok hin, netL_ok hin]
          exact ⟨_, rfl, hown, HF3.out.trans hfr, Newer.trans (.inl rfl) hnew (HF3.out.size)⟩
        clear hown hin hfr hnew
        go_wp2
        go_ret2
        rw [HFL.out]
        exact HRT.out
end Go.Proofs.Ytpaeohmoecdniab
