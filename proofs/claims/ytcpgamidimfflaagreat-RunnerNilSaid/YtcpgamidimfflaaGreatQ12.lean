/- Contracts of package order: legs. Contracts of package order: rightLegs. Contracts of package order: Right. Contracts of package order: Right, its first region. Contracts of package order: Right. -/
import Derived.Test.YtcpgamidimfflaaGreatQ11
import Derived.Sort.Walk0
import Derived.Deep.RegionHeld3
namespace Go.Proofs.YtcpgamidimfflaaGreat
open Go.RowKit Go.My Go.Maps
set_option linter.unusedSimpArgs false
set_option linter.unusedVariables false
attribute [local go_sem ↓] Go.wp_at_zero Go.wp_at_succ
def idxL (q : Lg → Bool) (L : List Lg) : Int := match L.findIdx? q with | some i => (i : Int) | none => -1
def IxRel (w : World) (q : Lg → Bool) (L : List Lg) (iv : Value) (wr : World) : Prop := ∃ k : Nat, k ≤ L.length ∧ iv = .int .i64 k ∧ (∀ g ∈ L.take k, q g = false) ∧ Fr No w wr
theorem index_any (F : Nat → Prop) (A : Option Addr) (c : Nat) (cells : List Value) (L : List Lg) (f : FuncId) (bs : Array Value) (q : Lg → Bool) (w : World) (hr : Rd w F 2 A L.length cells) (hE : Each RdLg 2 cells L) (hL : L.length ≤ 1000000)
    (hf : ∀ args W, (callFunc f args).run Tryz.prog W = .ok (.enter f args) W)
    (hc : ∀ W, Fr No w W → ∀ g ∈ L, Calls Tryz.prog f (#[.agg #[.string g.acct, .int .i64 g.sum]] ++ bs) W fun e w' => e = .returned (.bool (q g)) ∧ Fr No W w') :
    Calls Tryz.prog 205 #[.slice A L.length c, .func (.func f) #[] bs] w fun e w' => e = .returned (.int .i64 (idxL q L)) ∧ Fr No w w' := by
  have HR := Lib.hid hr
  have HE := Lib.hid hE
  have HC := Lib.hid hc
  clear hr hE hc
  go_enter Tryz.func205, Tryz.ntmps205
  go_wp2
  go_loopw [8] (fun iv wr => IxRel w q L iv wr) (fun iv _ => L.length - (intOf iv).toNat)
  case atStart => exact ⟨0, Nat.zero_le _, rfl, fun g hg => by simp at hg, Fr.refl _ _⟩
  case round =>
    obtain ⟨k, hk, rfl, hall, hfr⟩ := hrel
    by_cases hlt : k < L.length
    · obtain ⟨ad, rfl, _, hok, q0, q1⟩ := lg_at (HR.out.fr (by omega) hfr fun _ _ _ h => h) HE.out k hlt hlt
      have HCK := Lib.hid fun W hW => HC.out W hW L[k] (List.getElem_mem hlt)
      have HFR := Lib.hid hfr
      have hT : q L[k] = true → idxL q L = (k : Int) := fun h => by
        unfold idxL
        rw [List.findIdx?_eq_some_iff_getElem.2 ⟨hlt, h, fun j hj => by
          have := hall L[j] (List.mem_take_iff_getElem.2 ⟨j, by omega, rfl⟩)
          simp [this]⟩]
      have hN : q L[k] = false → ∀ g ∈ L.take (k + 1), q g = false := fun h g hg => by
        rw [List.take_succ_eq_append_getElem hlt, List.mem_append] at hg
        rcases hg with hg | hg
        · exact hall g hg
        · rw [List.mem_singleton.1 hg]; exact h
      have HT := Lib.hid hT
      have HN := Lib.hid hN
      generalize L[k] = g at *
      obtain ⟨nm, sm⟩ := g
      simp only at q0 q1 HCK
      clear hall hfr hok hT hN
      cases hb : q ⟨nm, sm⟩
      · rw [hb] at HCK
        have HN2 := Lib.hid (HN.out hb)
        clear HT HN hb
        go_wp2_with fail
        refine (HCK.out _ HFR.out).mono ?_
        rintro e w1 ⟨rfl, hf1⟩
        clear q0 q1
        go_wp2
        go_roundw
        case rel => exact ⟨k + 1, by omega, by go_num, HN2.out, HFR.out.trans hf1⟩
        case measure => simp [intOf]; omega
      · rw [hb] at HCK
        have HT2 := Lib.hid (HT.out hb)
        clear HT HN hb
        go_wp2_with fail
        refine (HCK.out _ HFR.out).mono ?_
        rintro e w1 ⟨rfl, hf1⟩
        clear q0 q1
        go_wp2
        go_ret
        exact ⟨by rw [HT2.out]; rfl, HFR.out.trans hf1⟩
    · obtain rfl : k = L.length := by omega
      have HF : Hid (idxL q L = -1) := by
        show _ = _
        unfold idxL
        rw [List.take_length] at hall
        rw [List.findIdx?_eq_none_iff.2 hall]
      go_wp2
      go_ret
      exact ⟨by rw [HF.out]; rfl, hfr⟩
theorem contains_any (F : Nat → Prop) (A : Option Addr) (c : Nat) (cells : List Value) (L : List Lg) (f : FuncId) (bs : Array Value) (q : Lg → Bool) (w : World) (hr : Rd w F 2 A L.length cells) (hE : Each RdLg 2 cells L) (hL : L.length ≤ 1000000)
    (hf : ∀ args W, (callFunc f args).run Tryz.prog W = .ok (.enter f args) W)
    (hc : ∀ W, Fr No w W → ∀ g ∈ L, Calls Tryz.prog f (#[.agg #[.string g.acct, .int .i64 g.sum]] ++ bs) W fun e w' => e = .returned (.bool (q g)) ∧ Fr No W w') :
    Calls Tryz.prog 158 #[.slice A L.length c, .func (.func f) #[] bs] w fun e w' => e = .returned (.bool (L.any q)) ∧ Fr No w w' := by
  have HX := Lib.hid (index_any F A c cells L f bs q w hr hE hL hf hc)
  have HA : Hid (decide (0 ≤ idxL q L) = L.any q) := by
    show _ = _
    unfold idxL
    cases h : L.findIdx? q with
    | none =>
      rw [List.findIdx?_eq_none_iff] at h
      simp only
      rw [List.any_eq_false.2 (fun x hx => by rw [h x hx]; decide)]
      rfl
    | some i =>
      obtain ⟨hlt, hi, _⟩ := List.findIdx?_eq_some_iff_getElem.1 h
      simp only
      rw [List.any_eq_true.2 ⟨L[i], List.getElem_mem hlt, hi⟩]
      exact decide_eq_true (by omega)
  clear hr hE hf hc
  go_enter Tryz.func158, Tryz.ntmps158
  go_wp2_with fail
  refine HX.out.mono ?_
  rintro e w1 ⟨rfl, hf1⟩
  go_wp2
  go_ret
  exact ⟨by rw [← HA.out]; rfl, hf1⟩
theorem same_any (s a : ByteArray) (n : Int) (g : Nat) (w : World) (hg : w.cell? ⟨g, 0, none⟩ = some (.string a)) : Calls Tryz.prog 157 #[.agg #[.string s, .int .i64 n], .pointer (some ⟨g, 0, none⟩)] w fun e w' => e = .returned (.bool (s.data.toList == a.data.toList)) ∧ Fr No w w' := by
  have hgl := World.block_lt_of_cell? w _ hg
  simp only at hgl
  go_enter Tryz.func157, Tryz.ntmps157
  go_wp2
  go_ret
  refine ⟨?_, (Fr.refl _ _).alloc _⟩
  rw [← ByteArray.toList_eq, ← ByteArray.toList_eq]
  rfl
end Go.Proofs.YtcpgamidimfflaaGreat
namespace Go.Proofs.YtcpgamidimfflaaGreat
open Go.RowKit Go.My Go.Maps
set_option linter.unusedSimpArgs false
set_option linter.unusedVariables false
attribute [local go_sem ↓] Go.wp_at_zero Go.wp_at_succ
def RlRel (w : World) (L : List Lg) (iv : Value) (wr : World) : Prop := ∃ k : Nat, k ≤ L.length ∧ iv = .int .i64 k ∧ (L.take k).all okLg = true ∧ ((L.take k).map Lg.nm).Nodup ∧ Fr No w wr
theorem rightB_dup {L : List Lg} (h : ¬ (L.map Lg.nm).Nodup) : rightB L = false := by
  unfold rightB
  rw [decide_eq_false h]
  simp
theorem rightB_all {L : List Lg} (h : 2 ≤ L.length ∧ L.length ≤ 6) (ha : L.all okLg = true) (hd : (L.map Lg.nm).Nodup) : rightB L = true := by
  unfold rightB
  have e : L.all (fun g => nameB g.nm && decide (g.sum ≠ 0)) = true := ha
  rw [e, decide_eq_true h.1, decide_eq_true h.2, decide_eq_true hd]
  rfl
theorem any_nm (L : List Lg) (k : Nat) (hk : k < L.length) : ((L.take k).any fun g => g.acct.data.toList == L[k].acct.data.toList) = decide (L[k].nm ∈ (L.take k).map Lg.nm) := by
  rw [Bool.eq_iff_iff, List.any_eq_true, decide_eq_true_eq, List.mem_map]
  constructor
  · rintro ⟨g, hg, he⟩
    exact ⟨g, hg, by simpa [Lg.nm] using he⟩
  · rintro ⟨g, hg, he⟩
    exact ⟨g, hg, by simpa [Lg.nm] using he⟩
theorem each_take {X : Type} {R : List Value → X → Prop} {size : Nat} {cells : List Value} {T : List X} (hE : Each R size cells T) (k : Nat) (hk : k ≤ T.length) : Each R size (cells.take (k * size)) (T.take k) := by
  refine ⟨?_, fun i x hx => ?_⟩
  · have := hE.1
    rw [List.length_take, List.length_take, this]
    rw [Nat.min_eq_left (Nat.mul_le_mul_right _ hk), Nat.min_eq_left hk]
  · have hlt : i < k := by
      have := (List.getElem?_eq_some_iff.1 hx).1
      rw [List.length_take] at this
      omega
    rw [List.getElem?_take, if_pos hlt] at hx
    have h := hE.2 i x hx
    rw [List.drop_take, List.take_take, Nat.min_eq_left]
    · exact h
    · rw [← Nat.sub_mul]
      have : 1 ≤ k - i := by omega
      calc size = 1 * size := by omega
        _ ≤ (k - i) * size := Nat.mul_le_mul_right _ this
set_option maxRecDepth 100000 in
set_option maxHeartbeats 4000000 in
theorem rightLegs_any (F : Nat → Prop) (A : Option Addr) (c : Nat) (cells : List Value) (L : List Lg) (w : World) (hr : Rd w F 2 A L.length cells) (hE : Each RdLg 2 cells L) (hlc : L.length ≤ c) (hcm : c ≤ maxLen) :
    Calls Tryz.prog 117 #[.slice A L.length c] w fun e w' => e = .returned (.bool (rightB L)) ∧ Fr No w w' := by
  have HR := Lib.hid hr
  have HE := Lib.hid hE
  have HLC := Lib.hid hlc
  clear hr hE hlc
  by_cases h2 : L.length < 2
  · have HB : Hid (rightB L = false) := rightB_len (by omega)
    have h2' : (L.length : Int) < 2 := by omega
    clear h2
    go_enter Tryz.func117, Tryz.ntmps117
    go_wp2
    go_ret
    exact ⟨by rw [HB.out]; rfl, Fr.refl _ _⟩
  by_cases h6 : 6 < L.length
  · have HB : Hid (rightB L = false) := rightB_len (by omega)
    have h2' : ¬ (L.length : Int) < 2 := by omega
    have h6' : (6 : Int) < (L.length : Int) := by omega
    clear h2 h6
    go_enter Tryz.func117, Tryz.ntmps117
    go_wp2
    go_ret
    exact ⟨by rw [HB.out]; rfl, Fr.refl _ _⟩
  have HLN : Hid (2 ≤ L.length ∧ L.length ≤ 6) := ⟨by omega, by omega⟩
  have h2' : ¬ (L.length : Int) < 2 := by omega
  have h6' : ¬ (6 : Int) < (L.length : Int) := by omega
  clear h2 h6
  go_enter Tryz.func117, Tryz.ntmps117
  go_wp2
  clear h2' h6'
  go_loopw [16] (fun iv wr => RlRel w L iv wr) (fun iv _ => L.length - (intOf iv).toNat)
  case atStart => exact ⟨0, Nat.zero_le _, rfl, rfl, by simp, Fr.refl _ _⟩
  case round =>
    obtain ⟨k, hk, rfl, hall, hnd, hfr⟩ := hrel
    by_cases hlt : k < L.length
    · obtain ⟨ad, rfl, _, hok, q0, q1⟩ := lg_at (HR.out.fr (by omega) hfr fun _ _ _ h => h) HE.out k hlt hlt
      have HBAD : Hid (okLg L[k] = false → rightB L = false) := rightB_bad hlt
      have HNX : Hid (okLg L[k] = true → (L.take (k + 1)).all okLg = true) := fun h => by
        rw [List.take_succ_eq_append_getElem hlt, List.all_append, hall]
        simp [h]
      have HDUP : Hid (L[k].nm ∈ (L.take k).map Lg.nm → rightB L = false) := fun h => rightB_dup fun hd => by
        obtain ⟨g, hg, he⟩ := List.mem_map.1 h
        obtain ⟨j, hj, rfl⟩ := List.mem_take_iff_getElem.1 hg
        have h3 := List.pairwise_iff_getElem.1 hd j k (by simp; omega) (by simpa using hlt) (by omega)
        simp only [List.getElem_map] at h3
        exact h3 he
      have HND : Hid (L[k].nm ∉ (L.take k).map Lg.nm → ((L.take (k + 1)).map Lg.nm).Nodup) := fun h => by
        rw [List.take_succ_eq_append_getElem hlt, List.map_append, List.nodup_append]
        refine ⟨hnd, by simp, fun x hx y hy => ?_⟩
        simp only [List.map_cons, List.map_nil, List.mem_singleton] at hy
        rintro rfl
        rw [hy] at hx
        exact h hx
      have HAN := Lib.hid (any_nm L k hlt)
      have hlk : (L.take k).length = k := by rw [List.length_take]; omega
      have HCT : Hid (∀ W g, Fr No wr W → W.cell? ⟨g, 0, none⟩ = some (.string L[k].acct) → Calls Tryz.prog 158 #[.slice (some ad) k c, .func (.func 157) #[] #[.pointer (some ⟨g, 0, none⟩)]] W fun e w' => e = .returned (.bool ((L.take k).any fun x => x.acct.data.toList == L[k].acct.data.toList)) ∧ Fr No W w') := fun W g hW hg => by
        have h := contains_any F (some ad) c (cells.take (k * 2)) (L.take k) 157 #[.pointer (some ⟨g, 0, none⟩)] (fun x => x.acct.data.toList == L[k].acct.data.toList) W (by
          rw [hlk]
          exact ((HR.out.fr (by omega) hfr fun _ _ _ h => h).fr (by omega) hW fun _ _ _ h => h).take (by omega)) (each_take HE.out k hk) (by rw [hlk]; have := HLN.out; omega) (enters_of Tryz.func157 (by kernel_rfl) rfl) (fun W' hW' x hx => same_any x.acct L[k].acct x.sum g W' (hW'.cell_some hg (fun h => h)))
        rw [hlk] at h
        exact h
      generalize L[k] = g at *
      obtain ⟨nm, sm⟩ := g
      unfold Lg.ok at hok
      simp only at q0 q1 hok HCT
      rw [HAN.out] at HCT
      have HNM := Lib.hid (ansName nm hok.1)
      have hbx := Blk.new wr 152 #[.string nm, .int .i64 sm]
      have HBX := Lib.hid hbx
      have HFR := Lib.hid hfr
      clear hall hnd hfr hok hbx HAN hlk
      go_wp2_with fail
      refine (HNM.out _).mono ?_
      rintro e w3 ⟨rfl, hf3⟩
      have hbx3 := HBX.out.fr hf3 (fun h => h)
      have x0 := hbx3.cell 0
      have x1 := hbx3.cell 1
      simp only [List.getElem?_toArray, List.getElem?_cons_zero, List.getElem?_cons_succ] at x0 x1
      have hf03 : Fr No wr w3 := ((Fr.refl No wr).alloc _).trans hf3
      have HF3 := Lib.hid (HFR.out.trans hf03)
      have HC3 := Lib.hid (HCT.out w3 wr.heap.size hf03 x0)
      have hok1 : okLg ⟨nm, sm⟩ = (nameB nm.data.toList && decide (sm ≠ 0)) := rfl
      clear hbx3 hf3 hf03 HNM HCT
      cases hn : nameB nm.data.toList
      · have HB := Lib.hid (HBAD.out (by rw [hok1, hn]; rfl))
        clear hn hok1 HBAD HNX HDUP HND HC3
        go_wp2
        go_ret
        exact ⟨by rw [HB.out]; rfl, HF3.out⟩
      · by_cases hs : sm = 0
        · have HB := Lib.hid (HBAD.out (by rw [hok1, hn, hs]; rfl))
          subst hs
          clear hn hok1 HBAD HNX HDUP HND HC3
          go_wp2
          go_ret
          exact ⟨by rw [HB.out]; rfl, HF3.out⟩
        · have HA := Lib.hid (HNX.out (by rw [hok1, hn]; simpa using hs))
          have hkc : k ≤ c := by have := HLC.out; omega
          have hk6 : k < 6 := by have := HLN.out; omega
          have hs2 : (sm == 0) = false := beq_eq_false_iff_ne.2 hs
          by_cases hm : (⟨nm, sm⟩ : Lg).nm ∈ (L.take k).map Lg.nm
          · have HB := Lib.hid (HDUP.out hm)
            rw [decide_eq_true hm] at HC3
            clear hn hok1 HBAD HNX HDUP HND hm hs
            go_wp2_with fail
            refine HC3.out.mono ?_
            rintro e w4 ⟨rfl, hf4⟩
            go_wp2
            go_ret
            exact ⟨by rw [HB.out]; rfl, HF3.out.trans hf4⟩
          · have HN := Lib.hid (HND.out hm)
            rw [decide_eq_false hm] at HC3
            clear hn hok1 HBAD HNX HDUP HND hm hs
            go_wp2_with fail
            refine HC3.out.mono ?_
            rintro e w4 ⟨rfl, hf4⟩
            go_wp2
            go_roundw
            case rel => exact ⟨k + 1, by omega, by go_num, HA.out, HN.out, HF3.out.trans hf4⟩
            case measure => simp [intOf]; omega
    · obtain rfl : k = L.length := by omega
      have HB : Hid (rightB L = true) := rightB_all HLN.out (by rw [List.take_length] at hall; exact hall) (by rw [List.take_length] at hnd; exact hnd)
      go_wp2
      go_ret
      exact ⟨by rw [HB.out]; rfl, hfr⟩
end Go.Proofs.YtcpgamidimfflaaGreat
namespace Go.Proofs.YtcpgamidimfflaaGreat
open Go.RowKit Go.My Go.Maps
set_option linter.unusedSimpArgs false
set_option linter.unusedVariables false
attribute [local go_sem ↓] Go.wp_at_zero Go.wp_at_succ
structure Od where
  cl : Int
  sq : Int
  kd : Int
  acct : ByteArray
  peer : ByteArray
  sum : Int
  legs : List Lg
  per : Int
  hold : Int
  note : ByteArray
def Od.an (o : Od) : List UInt8 := o.acct.data.toList
def Od.pn (o : Od) : List UInt8 := o.peer.data.toList
def Od.ok (o : Od) : Prop := In64 o.cl ∧ In64 o.sq ∧ In64 o.kd ∧ o.acct.size ≤ maxLen ∧ o.peer.size ≤ maxLen ∧ In64 o.sum ∧ In64 o.per ∧ In64 o.hold ∧ o.note.size ≤ maxLen
def Od.cs (o : Od) (v : Value) : List Value := [.int .i64 o.cl, .int .i64 o.sq, .int .i64 o.kd, .string o.acct, .string o.peer, .int .i64 o.sum, v, .int .i64 o.per, .int .i64 o.hold, .string o.note]
def LgS (w : World) (F : Nat → Prop) (v : Value) (L : List Lg) : Prop := ∃ A c cells, v = .slice A L.length c ∧ Rd w F 2 A L.length cells ∧ Each RdLg 2 cells L ∧ L.length ≤ c ∧ c ≤ maxLen
theorem LgS.no {w w' : World} {F : Nat → Prop} {v : Value} {L : List Lg} (h : LgS w F v L) (hf : Fr No w w') : LgS w' F v L := by
  obtain ⟨A, c, cells, rfl, hr, r⟩ := h
  exact ⟨A, c, cells, rfl, hr.fr (by omega) hf (fun _ _ _ h => h), r⟩
def acctB (o : Od) : Bool := if o.kd = 2 ∨ o.kd = 6 then o.an.isEmpty else nameB o.an
def peerB (o : Od) : Bool := if o.kd = 4 then nameB o.pn && !(o.pn == o.an) else o.pn.isEmpty
def sumB (o : Od) : Bool := if o.kd = 1 then decide (0 ≤ o.sum) else if o.kd = 3 ∨ o.kd = 4 then decide (1 ≤ o.sum) else o.sum == 0
def legsB (o : Od) : Bool := if o.kd = 2 then rightB o.legs else o.legs.length == 0
def perB (o : Od) : Bool := if o.kd = 2 ∨ o.kd = 4 ∨ o.kd = 6 then decide (1 ≤ o.per) && decide (o.per ≤ 1000) else o.per == 0
def holdB (o : Od) : Bool := if o.kd = 4 ∨ o.kd = 5 then decide (1 ≤ o.hold) && decide (o.hold ≤ 9999) else o.hold == 0
def noteB (o : Od) : Bool := if o.kd = 2 then decide (o.note.data.toList.length ≤ 20) else o.note.data.toList.isEmpty
def rightO (o : Od) : Bool := decide (1 ≤ o.kd) && (decide (o.kd ≤ 7) && (idB o.cl o.sq && (acctB o && (peerB o && (sumB o && (legsB o && (perB o && (holdB o && noteB o))))))))
theorem zeroS (w : World) : (zeroValue 159).run Tryz.prog w = .ok (.agg zs7) w := by kernel_rfl
theorem shapeF_none {k : Int} (h : ¬ (1 ≤ k ∧ k ≤ 7)) : shapeF k = none := by
  unfold shapeF
  rw [if_neg (by omega), if_neg (by omega), if_neg (by omega), if_neg (by omega), if_neg (by omega), if_neg (by omega), if_neg (by omega)]
end Go.Proofs.YtcpgamidimfflaaGreat
namespace Go.Proofs.YtcpgamidimfflaaGreat
open Go.RowKit Go.My Go.Maps
set_option linter.unusedSimpArgs false
set_option linter.unusedVariables false
attribute [local go_sem ↓] Go.wp_at_zero Go.wp_at_succ
noncomputable def rg1s : { c : Code // regOf 1 Tryz.f45 = c } := ⟨_, by conv => lhs; whnf⟩
noncomputable def rg1 : Code := rg1s.1
def rgF (v0 v3 v4 v5 v6 v7 v8 v9 v10 v11 : Value) (b : Nat) : Array Value :=
  (v0 :: .pointer (some ⟨b, 0, none⟩) :: .bool false :: v3 :: v4 :: v5 :: v6 :: v7 :: v8 :: v9 :: v10 :: v11 :: undef :: undef :: undef :: undef :: undef :: undef :: undef :: undef :: undef :: undef :: undef :: undef :: undef :: undef :: undef :: undef :: undef :: undef :: undef :: undef :: undef :: undef :: undef :: undef :: undef :: undef :: undef :: undef :: undef :: undef :: undef :: undef :: undef :: undef :: undef :: undef :: undef :: undef :: undef :: undef :: undef :: undef :: undef :: undef :: undef :: undef :: undef :: undef :: undef :: undef :: undef :: undef :: undef :: undef :: undef :: undef :: undef :: []).toArray
set_option maxRecDepth 100000 in
set_option maxHeartbeats 4000000 in
theorem rg1_some {w : World} {b : Nat} {v0 : Value} {Q : Exit → Act → World → Prop} {c0 c1 c2 c3 c4 c5 c6 : FuncId} {o : Od} {v : Value} (hkd : In64 o.kd) (hb : Blk w b 35 (o.cs v).toArray) (hk : shapeF o.kd = some (.agg (shp c0 c1 c2 c3 c4 c5 c6)))
    (hQ : ∀ (p : Nat) (v5 v6 v7 v8 v9 v10 v11 : Value) w', Blk w' p 159 (shp c0 c1 c2 c3 c4 c5 c6) → Fr No w w' → Q .normal ⟨rgF v0 (.pointer (some ⟨p, 0, none⟩)) (.bool true) v5 v6 v7 v8 v9 v10 v11 b, []⟩ w') :
    Code.wp Tryz.prog rg1 Q ⟨rgF v0 undef undef undef undef undef undef undef undef undef b, []⟩ w := by
  have x2 := hb.cell 2
  simp only [Od.cs, List.getElem?_toArray, List.getElem?_cons_zero, List.getElem?_cons_succ] at x2
  have HX : Hid (∀ W, Fr No w W → Fr No w W ∧ W.cell? ⟨b, 2, none⟩ = some (.int .i64 o.kd)) := fun W hW => ⟨hW, hW.cell_some x2 (fun h => h)⟩
  have HSH := Lib.hid (fun W => shapes_any W)
  have hw1 : Fr No w w.drew := (Fr.refl No w).drew
  have HQ := Lib.hid hQ
  have HB := Lib.hid hb.lt
  have HLK : Hid (∀ m W, Tab Tryz.prog 3 W m 7 shapeF → (Instr.lookup 161 (.map (some m)) (.int .i64 o.kd) true).run Tryz.prog W = .ok (.tuple #[.agg #[.func (.func c0) #[] #[], .func (.func c1) #[] #[], .func (.func c2) #[] #[], .func (.func c3) #[] #[], .func (.func c4) #[] #[], .func (.func c5) #[] #[], .func (.func c6) #[] #[]], .bool true]) W) := fun m W h => by
    have h1 := h.look_ok Tryz.underlying3 Tryz.underlying161 (zeroS W) o.kd hkd
    rw [hk] at h1
    exact h1
  clear hb hQ x2 hk
  unfold rgF
  conv => arg 2; whnf
  refine wp_region_noPanic ?_
  have y0 := (HX.out _ hw1).2
  have y1 := fun O => (HX.out _ ((Fr.refl No w).alloc O).drew).2
  go_region_with (go_at_call 82; (with_reducible refine (HSH.out _).mono ?_); rintro e w4 ⟨m, rfl, hT, hf4⟩; have hlk := HLK.out m _ hT; have hlka := (fun O => HLK.out m _ (hT.fr ((Fr.refl No _).alloc O) (fun h => h))); have hg4 := (fun h => Fr.trans (S := No) (a := w) h hf4) (by first | exact hw1 | exact (Fr.drew (Fr.alloc (Fr.refl No w) _))); have y4 := (HX.out _ hg4).2; have y5 := (fun O => (HX.out _ (hg4.alloc O)).2); (try (have hbz : Blk w4 w.heap.size 159 zs7 := Blk.fr (w := ((w.alloc (.cells zs7 159)).drew)) (Blk.new w 159 zs7) hf4 (fun h => h); have z0 := hbz.cell 0; have z1 := hbz.cell 1; have z2 := hbz.cell 2; have z3 := hbz.cell 3; have z4 := hbz.cell 4; have z5 := hbz.cell 5; have z6 := hbz.cell 6; have fz := hbz.frozen; simp only [zs7, List.getElem?_toArray, List.getElem?_cons_zero, List.getElem?_cons_succ] at z0 z1 z2 z3 z4 z5 z6)))
  all_goals
    refine HQ.out _ _ _ _ _ _ _ _ _ ?_ ?_
  all_goals
    first
      | (unfold shp fnV; with_reducible exact Blk.new w4 _ _)
      | (with_reducible exact hg4.alloc _)
      | exact ((((((hbz.set_ 0 _).set_ 1 _).set_ 2 _).set_ 3 _).set_ 4 _).set_ 5 _).set_ 6 _
      | exact ((((((hg4.setCell (p := ⟨w.heap.size, 0, none⟩) (fun h => absurd h (Nat.lt_irrefl _)) _).setCell (p := ⟨w.heap.size, 1, none⟩) (fun h => absurd h (Nat.lt_irrefl _)) _).setCell (p := ⟨w.heap.size, 2, none⟩) (fun h => absurd h (Nat.lt_irrefl _)) _).setCell (p := ⟨w.heap.size, 3, none⟩) (fun h => absurd h (Nat.lt_irrefl _)) _).setCell (p := ⟨w.heap.size, 4, none⟩) (fun h => absurd h (Nat.lt_irrefl _)) _).setCell (p := ⟨w.heap.size, 5, none⟩) (fun h => absurd h (Nat.lt_irrefl _)) _).setCell (p := ⟨w.heap.size, 6, none⟩) (fun h => absurd h (Nat.lt_irrefl _)) _
set_option maxRecDepth 100000 in
set_option maxHeartbeats 4000000 in
theorem rg1_none {w : World} {b : Nat} {v0 : Value} {Q : Exit → Act → World → Prop} {o : Od} {v : Value} (hkd : In64 o.kd) (hb : Blk w b 35 (o.cs v).toArray) (hk : shapeF o.kd = none)
    (hQ : ∀ (p : Nat) (v5 v6 v7 v8 v9 v10 v11 : Value) w', Fr No w w' → Q .normal ⟨rgF v0 (.pointer (some ⟨p, 0, none⟩)) (.bool false) v5 v6 v7 v8 v9 v10 v11 b, []⟩ w') :
    Code.wp Tryz.prog rg1 Q ⟨rgF v0 undef undef undef undef undef undef undef undef undef b, []⟩ w := by
  have x2 := hb.cell 2
  simp only [Od.cs, List.getElem?_toArray, List.getElem?_cons_zero, List.getElem?_cons_succ] at x2
  have HX : Hid (∀ W, Fr No w W → Fr No w W ∧ W.cell? ⟨b, 2, none⟩ = some (.int .i64 o.kd)) := fun W hW => ⟨hW, hW.cell_some x2 (fun h => h)⟩
  have HSH := Lib.hid (fun W => shapes_any W)
  have hw1 : Fr No w w.drew := (Fr.refl No w).drew
  have HQ := Lib.hid hQ
  have HB := Lib.hid hb.lt
  have HLK : Hid (∀ m W, Tab Tryz.prog 3 W m 7 shapeF → (Instr.lookup 161 (.map (some m)) (.int .i64 o.kd) true).run Tryz.prog W = .ok (.tuple #[.agg #[.nilFunc, .nilFunc, .nilFunc, .nilFunc, .nilFunc, .nilFunc, .nilFunc], .bool false]) W) := fun m W h => by
    have h1 := h.look_ok Tryz.underlying3 Tryz.underlying161 (zeroS W) o.kd hkd
    rw [hk] at h1
    exact h1
  clear hb hQ x2 hk
  unfold rgF
  conv => arg 2; whnf
  refine wp_region_noPanic ?_
  have y0 := (HX.out _ hw1).2
  have y1 := fun O => (HX.out _ ((Fr.refl No w).alloc O).drew).2
  go_region_with (go_at_call 82; (with_reducible refine (HSH.out _).mono ?_); rintro e w4 ⟨m, rfl, hT, hf4⟩; have hlk := HLK.out m _ hT; have hlka := (fun O => HLK.out m _ (hT.fr ((Fr.refl No _).alloc O) (fun h => h))); have hg4 := (fun h => Fr.trans (S := No) (a := w) h hf4) (by first | exact hw1 | exact (Fr.drew (Fr.alloc (Fr.refl No w) _))); have y4 := (HX.out _ hg4).2; have y5 := (fun O => (HX.out _ (hg4.alloc O)).2); (try (have hbz : Blk w4 w.heap.size 159 zs7 := Blk.fr (w := ((w.alloc (.cells zs7 159)).drew)) (Blk.new w 159 zs7) hf4 (fun h => h); have z0 := hbz.cell 0; have z1 := hbz.cell 1; have z2 := hbz.cell 2; have z3 := hbz.cell 3; have z4 := hbz.cell 4; have z5 := hbz.cell 5; have z6 := hbz.cell 6; have fz := hbz.frozen; simp only [zs7, List.getElem?_toArray, List.getElem?_cons_zero, List.getElem?_cons_succ] at z0 z1 z2 z3 z4 z5 z6)))
  all_goals
    refine HQ.out _ _ _ _ _ _ _ _ _ ?_
  all_goals
    first
      | (with_reducible exact hg4.alloc _)
      | exact ((((((hg4.setCell (p := ⟨w.heap.size, 0, none⟩) (fun h => absurd h (Nat.lt_irrefl _)) _).setCell (p := ⟨w.heap.size, 1, none⟩) (fun h => absurd h (Nat.lt_irrefl _)) _).setCell (p := ⟨w.heap.size, 2, none⟩) (fun h => absurd h (Nat.lt_irrefl _)) _).setCell (p := ⟨w.heap.size, 3, none⟩) (fun h => absurd h (Nat.lt_irrefl _)) _).setCell (p := ⟨w.heap.size, 4, none⟩) (fun h => absurd h (Nat.lt_irrefl _)) _).setCell (p := ⟨w.heap.size, 5, none⟩) (fun h => absurd h (Nat.lt_irrefl _)) _).setCell (p := ⟨w.heap.size, 6, none⟩) (fun h => absurd h (Nat.lt_irrefl _)) _
end Go.Proofs.YtcpgamidimfflaaGreat
namespace Go.Proofs.YtcpgamidimfflaaGreat
open Go.RowKit Go.My Go.Maps
set_option linter.unusedSimpArgs false
set_option linter.unusedVariables false
attribute [local go_sem ↓] Go.wp_at_zero Go.wp_at_succ
def Od.val (o : Od) (v : Value) : Value := .agg (o.cs v).toArray
structure Asks (o : Od) (v : Value) (w : World) (c0 c1 c2 c3 c4 c5 c6 : FuncId) (b0 b1 b2 b3 b4 b5 b6 : Bool) : Prop where
  a0 : AnsB c0 #[.string o.acct] b0
  a1 : AnsB c1 #[.string o.peer, .string o.acct] b1
  a2 : AnsB c2 #[.int .i64 o.sum] b2
  a3 : ∀ W, Fr No w W → Calls Tryz.prog c3 #[v] W fun e w' => e = .returned (.bool b3) ∧ Fr No W w'
  a4 : AnsB c4 #[.int .i64 o.per] b4
  a5 : AnsB c5 #[.int .i64 o.hold] b5
  a6 : AnsB c6 #[.string o.note] b6
  e0 : ∀ args W, (callFunc c0 args).run Tryz.prog W = .ok (.enter c0 args) W
  e1 : ∀ args W, (callFunc c1 args).run Tryz.prog W = .ok (.enter c1 args) W
  e2 : ∀ args W, (callFunc c2 args).run Tryz.prog W = .ok (.enter c2 args) W
  e3 : ∀ args W, (callFunc c3 args).run Tryz.prog W = .ok (.enter c3 args) W
  e4 : ∀ args W, (callFunc c4 args).run Tryz.prog W = .ok (.enter c4 args) W
  e5 : ∀ args W, (callFunc c5 args).run Tryz.prog W = .ok (.enter c5 args) W
  e6 : ∀ args W, (callFunc c6 args).run Tryz.prog W = .ok (.enter c6 args) W
set_option maxRecDepth 100000 in
set_option maxHeartbeats 4000000 in
theorem right_some {o : Od} {v : Value} {w : World} {c0 c1 c2 c3 c4 c5 c6 : FuncId} {b0 b1 b2 b3 b4 b5 b6 : Bool} (ho : o.ok) (hk : shapeF o.kd = some (.agg (shp c0 c1 c2 c3 c4 c5 c6))) (hA : Asks o v w c0 c1 c2 c3 c4 c5 c6 b0 b1 b2 b3 b4 b5 b6) :
    Calls Tryz.prog 45 #[o.val v] w fun e w' => e = .returned (.bool (idB o.cl o.sq && (b0 && (b1 && (b2 && (b3 && (b4 && (b5 && b6)))))))) ∧ Fr No w w' := by
  have HA := Lib.hid hA
  have HID := Lib.hid (ansId o.cl o.sq)
  have HBX := Lib.hid (Blk.new w 35 (o.cs v).toArray)
  have HO := Lib.hid ho
  have HK := Lib.hid hk
  clear ho hk hA
  unfold Od.val
  obtain ⟨ocl, osq, okd, oac, ope, osm, olg, opr, ohd, ont⟩ := o
  unfold Od.cs at *
  go_enter Tryz.func45, Tryz.ntmps45
  go_wp2
  refine rg1_some (o := ⟨ocl, osq, okd, oac, ope, osm, olg, opr, ohd, ont⟩) (v := v) HO.out.2.2.1 HBX.out HK.out fun p v5 v6 v7 v8 v9 v10 v11 w2 hbp hf2 => ?_
  unfold rgF
  have HF2 : Hid (Fr No w w2) := ((Fr.refl No w).alloc _).trans hf2
  have hbx := HBX.out.fr hf2 (fun h => h)
  have HBX2 := Lib.hid hbx
  have HBP := Lib.hid hbp
  have HX : Hid (∀ W, Fr No w2 W → W.cell? ⟨w.heap.size, 0, none⟩ = some (.int .i64 ocl) ∧ W.cell? ⟨w.heap.size, 1, none⟩ = some (.int .i64 osq) ∧ W.cell? ⟨w.heap.size, 3, none⟩ = some (.string oac) ∧ W.cell? ⟨w.heap.size, 4, none⟩ = some (.string ope) ∧ W.cell? ⟨w.heap.size, 5, none⟩ = some (.int .i64 osm) ∧ W.cell? ⟨w.heap.size, 6, none⟩ = some v ∧ W.cell? ⟨w.heap.size, 7, none⟩ = some (.int .i64 opr) ∧ W.cell? ⟨w.heap.size, 8, none⟩ = some (.int .i64 ohd) ∧ W.cell? ⟨w.heap.size, 9, none⟩ = some (.string ont)) := fun W hW => by
    have h := HBX2.out.fr hW (fun h => h)
    exact ⟨h.cell 0, h.cell 1, h.cell 3, h.cell 4, h.cell 5, h.cell 6, h.cell 7, h.cell 8, h.cell 9⟩
  have HP : Hid (∀ W, Fr No w2 W → W.cell? ⟨p, 0, none⟩ = some (.func (.func c0) #[] #[]) ∧ W.cell? ⟨p, 1, none⟩ = some (.func (.func c1) #[] #[]) ∧ W.cell? ⟨p, 2, none⟩ = some (.func (.func c2) #[] #[]) ∧ W.cell? ⟨p, 3, none⟩ = some (.func (.func c3) #[] #[]) ∧ W.cell? ⟨p, 4, none⟩ = some (.func (.func c4) #[] #[]) ∧ W.cell? ⟨p, 5, none⟩ = some (.func (.func c5) #[] #[]) ∧ W.cell? ⟨p, 6, none⟩ = some (.func (.func c6) #[] #[])) := fun W hW => by
    have h := HBP.out.fr hW (fun h => h)
    exact ⟨h.cell 0, h.cell 1, h.cell 2, h.cell 3, h.cell 4, h.cell 5, h.cell 6⟩
  clear hbp hf2 hbx HBX HBX2 HBP HK HO
  have a0 := HA.out.a0
  have a1 := HA.out.a1
  have a2 := HA.out.a2
  have a3 := HA.out.a3
  have a4 := HA.out.a4
  have a5 := HA.out.a5
  have a6 := HA.out.a6
  simp only at a0 a1 a2 a3 a4 a5 a6
  have A0 := Lib.hid a0
  have A1 := Lib.hid a1
  have A2 := Lib.hid a2
  have A3 := Lib.hid a3
  have A4 := Lib.hid a4
  have A5 := Lib.hid a5
  have A6 := Lib.hid a6
  have e0 := HA.out.e0
  have e1 := HA.out.e1
  have e2 := HA.out.e2
  have e3 := HA.out.e3
  have e4 := HA.out.e4
  have e5 := HA.out.e5
  have e6 := HA.out.e6
  clear a0 a1 a2 a3 a4 a5 a6 HA
  obtain ⟨x0, x1, x3, x4, x5, x6, x7, x8, x9⟩ := HX.out _ (Fr.refl No w2)
  go_wp2_with fail
  refine (HID.out _).mono ?_
  rintro e u0 ⟨rfl, hg0⟩
  have HG0 := Lib.hid hg0
  clear hg0 x0 x1 x3 x4 x5 x6 x7 x8 x9
  cases hi : idB ocl osq
  · clear e0 e1 e2 e3 e4 e5 e6
    go_wp2
    go_ret
    exact ⟨by rw [hi]; rfl, HF2.out.trans HG0.out⟩
  obtain ⟨x0, x1, x3, x4, x5, x6, x7, x8, x9⟩ := HX.out _ HG0.out
  obtain ⟨y0, y1, y2, y3, y4, y5, y6⟩ := HP.out _ HG0.out
  go_wp2_with fail
  refine (A0.out _).mono ?_
  rintro e u1 ⟨rfl, hg1⟩
  have HG1 := Lib.hid (HG0.out.trans hg1)
  clear hg1 x0 x1 x3 x4 x5 x6 x7 x8 x9 y0 y1 y2 y3 y4 y5 y6
  cases b0
  · clear e0 e1 e2 e3 e4 e5 e6
    go_wp2
    go_ret
    exact ⟨by rw [hi]; rfl, HF2.out.trans HG1.out⟩
  obtain ⟨x0, x1, x3, x4, x5, x6, x7, x8, x9⟩ := HX.out _ HG1.out
  obtain ⟨y0, y1, y2, y3, y4, y5, y6⟩ := HP.out _ HG1.out
  go_wp2_with fail
  refine (A1.out _).mono ?_
  rintro e u2 ⟨rfl, hg2⟩
  have HG2 := Lib.hid (HG1.out.trans hg2)
  clear hg2 x0 x1 x3 x4 x5 x6 x7 x8 x9 y0 y1 y2 y3 y4 y5 y6
  cases b1
  · clear e0 e1 e2 e3 e4 e5 e6
    go_wp2
    go_ret
    exact ⟨by rw [hi]; rfl, HF2.out.trans HG2.out⟩
  obtain ⟨x0, x1, x3, x4, x5, x6, x7, x8, x9⟩ := HX.out _ HG2.out
  obtain ⟨y0, y1, y2, y3, y4, y5, y6⟩ := HP.out _ HG2.out
  go_wp2_with fail
  refine (A2.out _).mono ?_
  rintro e u3 ⟨rfl, hg3⟩
  have HG3 := Lib.hid (HG2.out.trans hg3)
  clear hg3 x0 x1 x3 x4 x5 x6 x7 x8 x9 y0 y1 y2 y3 y4 y5 y6
  cases b2
  · clear e0 e1 e2 e3 e4 e5 e6
    go_wp2
    go_ret
    exact ⟨by rw [hi]; rfl, HF2.out.trans HG3.out⟩
  obtain ⟨x0, x1, x3, x4, x5, x6, x7, x8, x9⟩ := HX.out _ HG3.out
  obtain ⟨y0, y1, y2, y3, y4, y5, y6⟩ := HP.out _ HG3.out
  go_wp2_with fail
  refine (A3.out _ (HF2.out.trans HG3.out)).mono ?_
  rintro e u4 ⟨rfl, hg4⟩
  have HG4 := Lib.hid (HG3.out.trans hg4)
  clear hg4 x0 x1 x3 x4 x5 x6 x7 x8 x9 y0 y1 y2 y3 y4 y5 y6
  cases b3
  · clear e0 e1 e2 e3 e4 e5 e6
    go_wp2
    go_ret
    exact ⟨by rw [hi]; rfl, HF2.out.trans HG4.out⟩
  obtain ⟨x0, x1, x3, x4, x5, x6, x7, x8, x9⟩ := HX.out _ HG4.out
  obtain ⟨y0, y1, y2, y3, y4, y5, y6⟩ := HP.out _ HG4.out
  go_wp2_with fail
  refine (A4.out _).mono ?_
  rintro e u5 ⟨rfl, hg5⟩
  have HG5 := Lib.hid (HG4.out.trans hg5)
  clear hg5 x0 x1 x3 x4 x5 x6 x7 x8 x9 y0 y1 y2 y3 y4 y5 y6
  cases b4
  · clear e0 e1 e2 e3 e4 e5 e6
    go_wp2
    go_ret
    exact ⟨by rw [hi]; rfl, HF2.out.trans HG5.out⟩
  obtain ⟨x0, x1, x3, x4, x5, x6, x7, x8, x9⟩ := HX.out _ HG5.out
  obtain ⟨y0, y1, y2, y3, y4, y5, y6⟩ := HP.out _ HG5.out
  go_wp2_with fail
  refine (A5.out _).mono ?_
  rintro e u6 ⟨rfl, hg6⟩
  have HG6 := Lib.hid (HG5.out.trans hg6)
  clear hg6 x0 x1 x3 x4 x5 x6 x7 x8 x9 y0 y1 y2 y3 y4 y5 y6
  cases b5
  · clear e0 e1 e2 e3 e4 e5 e6
    go_wp2
    go_ret
    exact ⟨by rw [hi]; rfl, HF2.out.trans HG6.out⟩
  obtain ⟨x0, x1, x3, x4, x5, x6, x7, x8, x9⟩ := HX.out _ HG6.out
  obtain ⟨y0, y1, y2, y3, y4, y5, y6⟩ := HP.out _ HG6.out
  go_wp2_with fail
  refine (A6.out _).mono ?_
  rintro e u7 ⟨rfl, hg7⟩
  have HG7 := Lib.hid (HG6.out.trans hg7)
  clear hg7 x0 x1 x3 x4 x5 x6 x7 x8 x9 y0 y1 y2 y3 y4 y5 y6
  clear e0 e1 e2 e3 e4 e5 e6
  go_wp2
  go_ret
  exact ⟨by rw [hi]; rfl, HF2.out.trans HG7.out⟩
set_option maxRecDepth 100000 in
set_option maxHeartbeats 4000000 in
theorem right_none {o : Od} {v : Value} {w : World} (ho : o.ok) (hk : shapeF o.kd = none) :
    Calls Tryz.prog 45 #[o.val v] w fun e w' => e = .returned (.bool false) ∧ Fr No w w' := by
  have HBX := Lib.hid (Blk.new w 35 (o.cs v).toArray)
  have HO := Lib.hid ho
  have HK := Lib.hid hk
  clear ho hk
  unfold Od.val
  obtain ⟨ocl, osq, okd, oac, ope, osm, olg, opr, ohd, ont⟩ := o
  unfold Od.cs at *
  go_enter Tryz.func45, Tryz.ntmps45
  go_wp2
  refine rg1_none (o := ⟨ocl, osq, okd, oac, ope, osm, olg, opr, ohd, ont⟩) (v := v) HO.out.2.2.1 HBX.out HK.out fun p v5 v6 v7 v8 v9 v10 v11 w2 hf2 => ?_
  unfold rgF
  have HF2 : Hid (Fr No w w2) := ((Fr.refl No w).alloc _).trans hf2
  clear hf2 HBX HK HO
  go_wp2
  go_ret
  exact ⟨rfl, HF2.out⟩
theorem k_name (args : Array Value) (W : World) : (callFunc 115 args).run Tryz.prog W = .ok (.enter 115 args) W := by kernel_rfl
theorem k_1 (args : Array Value) (W : World) : (callFunc 108 args).run Tryz.prog W = .ok (.enter 108 args) W := by kernel_rfl
theorem k_2 (args : Array Value) (W : World) : (callFunc 109 args).run Tryz.prog W = .ok (.enter 109 args) W := by kernel_rfl
theorem k_3 (args : Array Value) (W : World) : (callFunc 110 args).run Tryz.prog W = .ok (.enter 110 args) W := by kernel_rfl
theorem k_4 (args : Array Value) (W : World) : (callFunc 111 args).run Tryz.prog W = .ok (.enter 111 args) W := by kernel_rfl
theorem k_5 (args : Array Value) (W : World) : (callFunc 112 args).run Tryz.prog W = .ok (.enter 112 args) W := by kernel_rfl
theorem k_6 (args : Array Value) (W : World) : (callFunc 113 args).run Tryz.prog W = .ok (.enter 113 args) W := by kernel_rfl
theorem k_7 (args : Array Value) (W : World) : (callFunc 114 args).run Tryz.prog W = .ok (.enter 114 args) W := by kernel_rfl
theorem k_8 (args : Array Value) (W : World) : (callFunc 116 args).run Tryz.prog W = .ok (.enter 116 args) W := by kernel_rfl
theorem k_legs (args : Array Value) (W : World) : (callFunc 117 args).run Tryz.prog W = .ok (.enter 117 args) W := by kernel_rfl
theorem k_per (args : Array Value) (W : World) : (callFunc 118 args).run Tryz.prog W = .ok (.enter 118 args) W := by kernel_rfl
theorem k_hold (args : Array Value) (W : World) : (callFunc 122 args).run Tryz.prog W = .ok (.enter 122 args) W := by kernel_rfl
theorem k_note (args : Array Value) (W : World) : (callFunc 119 args).run Tryz.prog W = .ok (.enter 119 args) W := by kernel_rfl
theorem k_sum (args : Array Value) (W : World) : (callFunc 120 args).run Tryz.prog W = .ok (.enter 120 args) W := by kernel_rfl
theorem k_peer (args : Array Value) (W : World) : (callFunc 121 args).run Tryz.prog W = .ok (.enter 121 args) W := by kernel_rfl
theorem rightO_any (F : Nat → Prop) (o : Od) (v : Value) (w : World) (ho : o.ok) (hv : LgS w F v o.legs) :
    Calls Tryz.prog 45 #[o.val v] w fun e w' => e = .returned (.bool (rightO o)) ∧ Fr No w w' := by
  have hLg : ∀ W, Fr No w W → Calls Tryz.prog 117 #[v] W fun e w' => e = .returned (.bool (rightB o.legs)) ∧ Fr No W w' := fun W hW => by
    obtain ⟨A, c, cells, rfl, hr, hE, h1, h2⟩ := hv.no hW
    exact rightLegs_any F A c cells o.legs W hr hE h1 h2
  have hL4 : ∀ W, Fr No w W → Calls Tryz.prog 111 #[v] W fun e w' => e = .returned (.bool (o.legs.length == 0)) ∧ Fr No W w' := fun W hW => by
    obtain ⟨A, c, cells, rfl, hr, hE, h1, h2⟩ := hv
    exact ans4 A o.legs.length c W
  have hName := ansName o.acct ho.2.2.2.1
  have hPeer := ansPeer o.peer o.acct ho.2.2.2.2.1
  by_cases hk : 1 ≤ o.kd ∧ o.kd ≤ 7
  · have e1 : decide (1 ≤ o.kd) = true := decide_eq_true hk.1
    have e2 : decide (o.kd ≤ 7) = true := decide_eq_true hk.2
    unfold rightO
    rw [e1, e2, Bool.true_and, Bool.true_and]
    have h7 : o.kd = 1 ∨ o.kd = 2 ∨ o.kd = 3 ∨ o.kd = 4 ∨ o.kd = 5 ∨ o.kd = 6 ∨ o.kd = 7 := by omega
    unfold acctB peerB sumB legsB perB holdB noteB
    rcases h7 with h | h | h | h | h | h | h <;> simp only [h, Int.reduceEq, if_true, if_false, or_true, true_or, or_false, or_self, false_or]
    · exact right_some ho (by rw [h]; rfl) ⟨hName, ans2 _ _, ans8 _, hL4, ans5 _, ans6 _, ans7 _, k_name, k_2, k_8, k_4, k_5, k_6, k_7⟩
    · exact right_some ho (by rw [h]; rfl) ⟨ans1 _, ans2 _ _, ans3 _, hLg, ansPeriod _, ans6 _, ansNote _, k_1, k_2, k_3, k_legs, k_per, k_6, k_note⟩
    · exact right_some ho (by rw [h]; rfl) ⟨hName, ans2 _ _, ansSum _, hL4, ans5 _, ans6 _, ans7 _, k_name, k_2, k_sum, k_4, k_5, k_6, k_7⟩
    · exact right_some ho (by rw [h]; rfl) ⟨hName, hPeer, ansSum _, hL4, ansPeriod _, ansHold _, ans7 _, k_name, k_peer, k_sum, k_4, k_per, k_hold, k_7⟩
    · exact right_some ho (by rw [h]; rfl) ⟨hName, ans2 _ _, ans3 _, hL4, ans5 _, ansHold _, ans7 _, k_name, k_2, k_3, k_4, k_5, k_hold, k_7⟩
    · exact right_some ho (by rw [h]; rfl) ⟨ans1 _, ans2 _ _, ans3 _, hL4, ansPeriod _, ans6 _, ans7 _, k_1, k_2, k_3, k_4, k_per, k_6, k_7⟩
    · exact right_some ho (by rw [h]; rfl) ⟨hName, ans2 _ _, ans3 _, hL4, ans5 _, ans6 _, ans7 _, k_name, k_2, k_3, k_4, k_5, k_6, k_7⟩
  · have e : rightO o = false := by
      unfold rightO
      by_cases h1 : 1 ≤ o.kd
      · have : decide (o.kd ≤ 7) = false := decide_eq_false (fun h => hk ⟨h1, h⟩)
        rw [this, Bool.false_and, Bool.and_false]
      · rw [decide_eq_false h1, Bool.false_and]
    rw [e]
    exact right_none ho (shapeF_none hk)
end Go.Proofs.YtcpgamidimfflaaGreat
