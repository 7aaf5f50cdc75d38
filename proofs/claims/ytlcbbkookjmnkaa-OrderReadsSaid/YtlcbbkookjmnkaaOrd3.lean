/- Contracts of package order: rightLegs. -/
import Derived.Test.YtlcbbkookjmnkaaOrd2
namespace Go.Proofs.Ytlcbbkookjmnkaa
open Go.RowKit Go.My Go.Maps
set_option linter.unusedSimpArgs false
set_option linter.unusedVariables false
attribute [local go_sem ↓] Go.wp_at_zero Go.wp_at_succ

def RlRel (w : World) (L : List Lg) (iv : Value) (wr : World) : Prop := ∃ k : Nat, k ≤ L.length ∧ iv = .int .i64 k ∧ (L.take k).all okLg = true ∧ ((L.take k).map Lg.nm).Nodup ∧ Fr No w wr
theorem rightB_dup {L : List Lg} (h : ¬ (L.map Lg.nm).Nodup) : rightB L = false := by
  unfold rightB
  rw [decide_eq_false h]
  simp
theorem rightB_all {L : List Lg} (h : 2 ≤ L.length ∧ L.length ≤ 6) (ha : L.all okLg = true) (hd : (L.map Lg.nm).Nodup) : rightB L = true := by
  unfold rightB
  have e : L.all (fun g => nameB g.nm && decide (g.sum ≠ 0)) = true := ha
  rw [e, decide_eq_true h.1, decide_eq_true h.2, decide_eq_true hd]
  rfl
theorem any_nm (L : List Lg) (k : Nat) (hk : k < L.length) : ((L.take k).any fun g => g.acct.data.toList == L[k].acct.data.toList) = decide (L[k].nm ∈ (L.take k).map Lg.nm) := by
  rw [Bool.eq_iff_iff, List.any_eq_true, decide_eq_true_eq, List.mem_map]
  constructor
  · rintro ⟨g, hg, he⟩
    exact ⟨g, hg, by simpa [Lg.nm] using he⟩
  · rintro ⟨g, hg, he⟩
    exact ⟨g, hg, by simpa [Lg.nm] using he⟩
theorem each_take {X : Type} {R : List Value → X → Prop} {size : Nat} {cells : List Value} {T : List X} (hE : Each R size cells T) (k : Nat) (hk : k ≤ T.length) : Each R size (cells.take (k * size)) (T.take k) := by
  refine ⟨?_, fun i x hx => ?_⟩
  · have := hE.1
    rw [List.length_take, List.length_take, this]
    rw [Nat.min_eq_left (Nat.mul_le_mul_right _ hk), Nat.min_eq_left hk]
  · have hlt : i < k := by
      have := (List.getElem?_eq_some_iff.1 hx).1
      rw [List.length_take] at this
      omega
    rw [List.getElem?_take, if_pos hlt] at hx
    have h := hE.2 i x hx
    rw [List.drop_take, List.take_take, Nat.min_eq_left]
    · exact h
    · rw [← Nat.sub_mul]
      have : 1 ≤ k - i := by omega
      calc size = 1 * size := by omega
        _ ≤ (k - i) * size := Nat.mul_le_mul_right _ this

set_option maxRecDepth 100000 in
set_option maxHeartbeats 4000000 in
theorem rightLegs_any (F : Nat → Prop) (A : Option Addr) (c : Nat) (cells : List Value) (L : List Lg) (w : World) (hr : Rd w F 2 A L.length cells) (hE : Each RdLg 2 cells L) (hlc : L.length ≤ c) (hcm : c ≤ maxLen) :
    Calls Try.prog 71 #[.slice A L.length c] w fun e w' => e = .returned (.bool (rightB L)) ∧ Fr No w w' := by
  have HR := Lib.hid hr
  have HE := Lib.hid hE
  have HLC := Lib.hid hlc
  clear hr hE hlc
  by_cases h2 : L.length < 2
  · have HB : Hid (rightB L = false) := rightB_len (by omega)
    have h2' : (L.length : Int) < 2 := by omega
    clear h2
    go_enter Try.func71, Try.ntmps71
    go_wp2
    go_ret
    exact ⟨by rw [HB.out]; rfl, Fr.refl _ _⟩
  by_cases h6 : 6 < L.length
  · have HB : Hid (rightB L = false) := rightB_len (by omega)
    have h2' : ¬ (L.length : Int) < 2 := by omega
    have h6' : (6 : Int) < (L.length : Int) := by omega
    clear h2 h6
    go_enter Try.func71, Try.ntmps71
    go_wp2
    go_ret
    exact ⟨by rw [HB.out]; rfl, Fr.refl _ _⟩
  have HLN : Hid (2 ≤ L.length ∧ L.length ≤ 6) := ⟨by omega, by omega⟩
  have h2' : ¬ (L.length : Int) < 2 := by omega
  have h6' : ¬ (6 : Int) < (L.length : Int) := by omega
  clear h2 h6
  go_enter Try.func71, Try.ntmps71
  go_wp2
  clear h2' h6'
  go_loopw [16] (fun iv wr => RlRel w L iv wr) (fun iv _ => L.length - (intOf iv).toNat)
  case atStart => exact ⟨0, Nat.zero_le _, rfl, rfl, by simp, Fr.refl _ _⟩
  case round =>
    obtain ⟨k, hk, rfl, hall, hnd, hfr⟩ := hrel
    by_cases hlt : k < L.length
    · obtain ⟨ad, rfl, _, hok, q0, q1⟩ := lg_at (HR.out.fr (by omega) hfr fun _ _ _ h => h) HE.out k hlt hlt
      have HBAD : Hid (okLg L[k] = false → rightB L = false) := rightB_bad hlt
      have HNX : Hid (okLg L[k] = true → (L.take (k + 1)).all okLg = true) := fun h => by
        rw [List.take_succ_eq_append_getElem hlt, List.all_append, hall]
        simp [h]
      have HDUP : Hid (L[k].nm ∈ (L.take k).map Lg.nm → rightB L = false) := fun h => rightB_dup fun hd => by
        obtain ⟨g, hg, he⟩ := List.mem_map.1 h
        obtain ⟨j, hj, rfl⟩ := List.mem_take_iff_getElem.1 hg
        have h3 := List.pairwise_iff_getElem.1 hd j k (by simp; omega) (by simpa using hlt) (by omega)
        simp only [List.getElem_map] at h3
        exact h3 he
      have HND : Hid (L[k].nm ∉ (L.take k).map Lg.nm → ((L.take (k + 1)).map Lg.nm).Nodup) := fun h => by
        rw [List.take_succ_eq_append_getElem hlt, List.map_append, List.nodup_append]
        refine ⟨hnd, by simp, fun x hx y hy => ?_⟩
        simp only [List.map_cons, List.map_nil, List.mem_singleton] at hy
        rintro rfl
        rw [hy] at hx
        exact h hx
      have HAN := Lib.hid (any_nm L k hlt)
      have hlk : (L.take k).length = k := by rw [List.length_take]; omega
      have HCT : Hid (∀ W g, Fr No wr W → W.cell? ⟨g, 0, none⟩ = some (.string L[k].acct) → Calls Try.prog 86 #[.slice (some ad) k c, .func (.func 85) #[] #[.pointer (some ⟨g, 0, none⟩)]] W fun e w' => e = .returned (.bool ((L.take k).any fun x => x.acct.data.toList == L[k].acct.data.toList)) ∧ Fr No W w') := fun W g hW hg => by
        have h := contains_any F (some ad) c (cells.take (k * 2)) (L.take k) 85 #[.pointer (some ⟨g, 0, none⟩)] (fun x => x.acct.data.toList == L[k].acct.data.toList) W (by
          rw [hlk]
          exact ((HR.out.fr (by omega) hfr fun _ _ _ h => h).fr (by omega) hW fun _ _ _ h => h).take (by omega)) (each_take HE.out k hk) (by rw [hlk]; have := HLN.out; omega) (enters_of Try.func85 (by kernel_rfl) rfl) (fun W' hW' x hx => same_any x.acct L[k].acct x.sum g W' (hW'.cell_some hg (fun h => h)))
        rw [hlk] at h
        exact h
      generalize L[k] = g at *
      obtain ⟨nm, sm⟩ := g
      unfold Lg.ok at hok
      simp only at q0 q1 hok HCT
      rw [HAN.out] at HCT
      have HNM := Lib.hid (ansName nm hok.1)
      have hbx := Blk.new wr 53 #[.string nm, .int .i64 sm]
      have HBX := Lib.hid hbx
      have HFR := Lib.hid hfr
      clear hall hnd hfr hok hbx HAN hlk
      go_wp2_with fail
      refine (HNM.out _).mono ?_
      rintro e w3 ⟨rfl, hf3⟩
      have hbx3 := HBX.out.fr hf3 (fun h => h)
      have x0 := hbx3.cell 0
      have x1 := hbx3.cell 1
      simp only [List.getElem?_toArray, List.getElem?_cons_zero, List.getElem?_cons_succ] at x0 x1
      have hf03 : Fr No wr w3 := ((Fr.refl No wr).alloc _).trans hf3
      have HF3 := Lib.hid (HFR.out.trans hf03)
      have HC3 := Lib.hid (HCT.out w3 wr.heap.size hf03 x0)
      have hok1 : okLg ⟨nm, sm⟩ = (nameB nm.data.toList && decide (sm ≠ 0)) := rfl
      clear hbx3 hf3 hf03 HNM HCT
      cases hn : nameB nm.data.toList
      · have HB := Lib.hid (HBAD.out (by rw [hok1, hn]; rfl))
        clear hn hok1 HBAD HNX HDUP HND HC3
        go_wp2
        go_ret
        exact ⟨by rw [HB.out]; rfl, HF3.out⟩
      · by_cases hs : sm = 0
        · have HB := Lib.hid (HBAD.out (by rw [hok1, hn, hs]; rfl))
          subst hs
          clear hn hok1 HBAD HNX HDUP HND HC3
          go_wp2
          go_ret
          exact ⟨by rw [HB.out]; rfl, HF3.out⟩
        · have HA := Lib.hid (HNX.out (by rw [hok1, hn]; simpa using hs))
          have hkc : k ≤ c := by have := HLC.out; omega
          have hk6 : k < 6 := by have := HLN.out; omega
          have hs2 : (sm == 0) = false := beq_eq_false_iff_ne.2 hs
          by_cases hm : (⟨nm, sm⟩ : Lg).nm ∈ (L.take k).map Lg.nm
          · have HB := Lib.hid (HDUP.out hm)
            rw [decide_eq_true hm] at HC3
            clear hn hok1 HBAD HNX HDUP HND hm hs
            go_wp2_with fail
            refine HC3.out.mono ?_
            rintro e w4 ⟨rfl, hf4⟩
            go_wp2
            go_ret
            exact ⟨by rw [HB.out]; rfl, HF3.out.trans hf4⟩
          · have HN := Lib.hid (HND.out hm)
            rw [decide_eq_false hm] at HC3
            clear hn hok1 HBAD HNX HDUP HND hm hs
            go_wp2_with fail
            refine HC3.out.mono ?_
            rintro e w4 ⟨rfl, hf4⟩
            go_wp2
            go_roundw
            case rel => exact ⟨k + 1, by omega, by go_num, HA.out, HN.out, HF3.out.trans hf4⟩
            case measure => simp [intOf]; omega
    · obtain rfl : k = L.length := by omega
      have HB : Hid (rightB L = true) := rightB_all HLN.out (by rw [List.take_length] at hall; exact hall) (by rw [List.take_length] at hnd; exact hnd)
      go_wp2
      go_ret
      exact ⟨by rw [HB.out]; rfl, hfr⟩
end Go.Proofs.Ytlcbbkookjmnkaa
