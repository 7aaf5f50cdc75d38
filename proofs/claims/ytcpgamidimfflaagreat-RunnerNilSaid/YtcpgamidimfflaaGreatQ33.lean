/- slices.Repeat of one truth. open: what waits and is open. Where a place stands in the row of knots; ways lead to knots that stand no later; what KnotsWhole notes down (lists). slices.Concat over ints. The document's row of knots, of no program: what is free by marks, the least that is free, marks of a knot. How long a row of knots may be, of no program. knots.Order of longer graphs. -/
import Derived.Test.YtcpgamidimfflaaGreatQ32
import Derived.Shelf.Bits.Mul64
import Derived.Laws.CopyOwn
import Derived.Deep.RegionLaw
import Derived.StillTailTactics
import Derived.Test.YtcpgamidimfflaaGreatQ06
import Derived.Test.YtcpgamidimfflaaGreatQ28
import Derived.Test.YtcpgamidimfflaaGreatQ16
import Derived.Deep.DrawnRows
import Derived.Test.YtcpgamidimfflaaGreatQ05
import Derived.Test.YtcpgamidimfflaaGreatQ31
namespace Go.Proofs.YtcpgamidimfflaaGreat
open Go.RowKit Go.My Go.Maps
set_option linter.unusedSimpArgs false
set_option linter.unusedVariables false
attribute [local go_sem ↓] Go.wp_at_zero Go.wp_at_succ
set_option maxHeartbeats 1000000 in
theorem mul64_any (x y : Nat) (hx : x < 18446744073709551616) (hy : y < 18446744073709551616) (w : World) :
    Calls Tryz.prog 164 #[.int .u64 x, .int .u64 y] w fun e w' => e = .returned (.tuple #[.int .u64 ((x * y / 18446744073709551616 : Nat) : Int), .int .u64 ((x * y % 18446744073709551616 : Nat) : Int)]) ∧ w' = w := by
  obtain ⟨bd, bt, bw, hhi⟩ := Lib.mul64_hi x y hx hy
  have ba := Lib.half_mul_le (a := x / 4294967296) (b := y / 4294967296) (by omega) (by omega)
  have bb := Lib.half_mul_le (a := x / 4294967296) (b := y % 4294967296) (by omega) (by omega)
  have bc := Lib.half_mul_le (a := x % 4294967296) (b := y / 4294967296) (by omega) (by omega)
  have ba' : x / 4294967296 * (y / 4294967296) < 18446744073709551616 := by omega
  have bb' : x / 4294967296 * (y % 4294967296) < 18446744073709551616 := by omega
  have bc' : x % 4294967296 * (y / 4294967296) < 18446744073709551616 := by omega
  have bh1 : x / 4294967296 * (y / 4294967296) + (x / 4294967296 * (y % 4294967296) + x % 4294967296 * (y % 4294967296) / 4294967296) / 4294967296 < 18446744073709551616 := by omega
  have bh : x / 4294967296 * (y / 4294967296) + (x / 4294967296 * (y % 4294967296) + x % 4294967296 * (y % 4294967296) / 4294967296) / 4294967296 + ((x / 4294967296 * (y % 4294967296) + x % 4294967296 * (y % 4294967296) / 4294967296) % 4294967296 + x % 4294967296 * (y / 4294967296)) / 4294967296 < 18446744073709551616 := by omega
  go_enter Tryz.func164, Tryz.ntmps164
  go_wp2
  simp only [Mul64.maskN x hx, Mul64.maskN y hy, Mul64.divN, Mul64.mulN, Mul64.addN, Mul64.wrapN _ bd, Mul64.wrapN _ bb', Mul64.wrapN _ bt, Mul64.maskN _ bt, Mul64.wrapN _ bc', Mul64.wrapN _ bw, Mul64.wrapN _ ba', Mul64.wrapN _ bh1, Mul64.wrapN _ bh, Mul64.wrapM (x * y)]
  rw [hhi]
  go_ret2
  exact ⟨rfl, rfl⟩
set_option maxHeartbeats 1000000 in
theorem mul_any (x y : Nat) (hx : x < 18446744073709551616) (hy : y < 18446744073709551616) (w : World) :
    Calls Tryz.prog 125 #[.int .u64 x, .int .u64 y] w fun e w' => e = .returned (.tuple #[.int .u64 ((x * y / 18446744073709551616 : Nat) : Int), .int .u64 ((x * y % 18446744073709551616 : Nat) : Int)]) ∧ w' = w := by
  have c64 := Lib.hid (mul64_any x y hx hy w)
  clear hx hy
  go_enter Tryz.func125, Tryz.ntmps125
  go_wp2_with (go_at_call 164; (with_reducible refine c64.out.mono ?_); rintro e w' ⟨rfl, rfl⟩)
  go_ret2
  exact ⟨rfl, rfl⟩
def rowBl (n k : Nat) : List Value := List.replicate k (.bool true) ++ List.replicate (n - k) (.bool false)
theorem rowBl_len {n k : Nat} (h : k ≤ n) : (rowBl n k).length = n := by unfold rowBl; rw [List.length_append, List.length_replicate, List.length_replicate]; omega
theorem rowBl_splice {n k m : Nat} (h : k + m ≤ n) : splice (rowBl n k) k (List.replicate m (.bool true)) = rowBl n (k + m) := by
  unfold splice rowBl
  rw [List.length_replicate, List.take_append_of_le_length (by rw [List.length_replicate]; exact Nat.le_refl _), List.take_of_length_le (by rw [List.length_replicate]; exact Nat.le_refl _), List.drop_append, List.drop_of_length_le (by rw [List.length_replicate]; omega), List.nil_append, List.length_replicate, List.drop_replicate, ← List.append_assoc, List.replicate_append_replicate]
  congr 2
  omega
theorem bsize : (Tryz.prog.info? 4).map (·.size) = some 1 := by kernel_rfl
theorem elBl : El Tryz.prog 108 4 1 1 := ⟨Tryz.underlying108, by
  have h : (Tryz.prog.info? 4).map (fun i => (i.zero, i.size, i.bytes)) = some (some (.bool false), 1, 1) := by kernel_rfl
  obtain ⟨i, hi, hz, hs, hb⟩ := info_parts h
  exact ⟨i, _, hi, hz, hs, hb, rfl⟩, by omega⟩
theorem zeroBl : ∀ i, Tryz.prog.info? 4 = some i → i.zero = some (.bool false) := fun i hi => by
  have h : (Tryz.prog.info? 4).map (fun i => i.zero) = some (some (.bool false)) := by kernel_rfl
  rw [hi] at h
  simpa using h
def RpRel (w : World) (n : Nat) (kv : Value) (wr : World) : Prop := ∃ k : Nat, k ≤ n ∧ kv = .int .i64 (k : Int) ∧ (0 < n → 0 < k) ∧ wr.heap[w.heap.size]? = some (.cells (rowBl n k).toArray 4 (0, 0)) ∧ Fr No w wr
set_option maxRecDepth 100000 in
set_option maxHeartbeats 300000 in
theorem repeat_any (F : Nat → Prop) (A : Option Addr) (c n : Nat) (w : World) (hr : Rd w F 1 A 1 [.bool true]) (hn : n ≤ 100000) :
    Calls Tryz.prog 90 #[.slice A 1 c, .int .i64 (n : Int)] w (RetOwn w 4 1 none n (List.replicate n (.bool true))) := by
  have hmk := fun W => run_make1 (P := Tryz.prog) elBl zeroBl rfl .i64 .i64 n (by omega) (by simp only [maxLen]; omega) W
  have HMU : Hid (∀ W, Calls Tryz.prog 125 #[.int .u64 1, .int .u64 (n : Int)] W fun e w' => e = .returned (.tuple #[.int .u64 0, .int .u64 (n : Int)]) ∧ w' = W) := Lib.hid fun W => by
    have h := mul_any 1 n (by omega) (by omega) W
    have e1 : 1 * n / 18446744073709551616 = 0 := by omega
    have e2 : 1 * n % 18446744073709551616 = n := by omega
    rw [e1, e2] at h
    exact h
  obtain ⟨ad, rfl, -, hc⟩ := hr.2 (by omega)
  have hc0 := hc 0 _ rfl
  have HC := Lib.hid hc0
  have hz : (zrow n (.bool false)) = rowBl n 0 := by unfold rowBl zrow; simp
  have HG0 : Hid ((w.alloc (.cells (zrow n (.bool false)).toArray 4)).heap[w.heap.size]? = some (.cells (rowBl n 0).toArray 4 (0, 0))) := Lib.hid (by rw [hz]; exact heap_alloc_new w _)
  have hw0 : IntKind.u64.wrap (n : Int) = (n : Int) := by rw [IntKind.wrap_u64]; omega
  have hw1 : IntKind.i64.wrap (n : Int) = (n : Int) := by rw [IntKind.wrap_i64]; omega
  have hnp : decide ((n : Int) < 0) = false := decide_eq_false (by omega)
  have hnq : decide ((9223372036854775807 : Int) < (n : Int)) = false := decide_eq_false (by omega)
  clear hr hc hc0 hz
  go_enter Tryz.func90, Tryz.ntmps90
  obtain ⟨m0, hm0⟩ : ∃ m0, m0 = min 1 n := ⟨_, rfl⟩
  have HM0 := Lib.hid hm0
  have hsp0 := rowBl_splice (n := n) (k := 0) (m := m0) (by omega)
  rw [Nat.zero_add] at hsp0
  have HSP0 := Lib.hid hsp0
  clear hm0 hsp0
  have HS1 : Hid ((List.replicate m0 (Value.bool true)).length = Nat.min 1 n) := Lib.hid (by rw [List.length_replicate]; exact HM0.out)
  have HS2 : Hid (∀ (j : Nat) (v : Value), (List.replicate m0 (Value.bool true))[j]? = some v → (w.alloc (.cells (zrow n (.bool false)).toArray 4)).cell? (ad.add j) = some v) := Lib.hid fun j v hv => by
    have h7 := (List.getElem?_eq_some_iff.1 hv).1
    rw [List.length_replicate] at h7
    have hj : j = 0 := by have := HM0.out; omega
    subst hj
    rw [List.getElem?_replicate_of_lt h7] at hv
    injection hv with hv
    subst hv
    exact ((Fr.refl No w).alloc _).cell_some HC.out (fun h => h)
  have HS3 : Hid (0 + (List.replicate m0 (Value.bool true)).length ≤ (rowBl n 0).length) := Lib.hid (by rw [List.length_replicate, rowBl_len (Nat.zero_le _)]; have := HM0.out; omega)
  have HS4 : Hid (∀ v ∈ List.replicate m0 (Value.bool true), v.oneCell' = true) := Lib.hid fun v hv => by rw [List.eq_of_mem_replicate hv]; rfl
  have HS5 : Hid (Below w.heap.size w (w.alloc (.cells (zrow n (.bool false)).toArray 4))) := Lib.hid ((Below.refl _ _).alloc (Nat.le_refl _) _)
  go_upto_region 7 with (go_at_call 125; (with_reducible refine (HMU.out _).mono ?_); rintro e u ⟨rfl, hu⟩; rw [hu]; clear hu)
  go_wp2_with (refine wpList_copy_splice rfl (.tmp 31) (.tmp 32) 108 108 rfl 4 Tryz.underlying108 bsize _ (some ad) n n 1 c rfl rfl w.heap.size 0 (rowBl n 0) 4 HG0.out (List.replicate m0 (.bool true)) HS1.out (fun _ => ⟨rfl, ad, rfl, HS2.out⟩) HS3.out HS4.out w.heap.size w HS5.out (Nat.le_refl _) ?_; intro w2 HG2 hB2)
  rw [HSP0.out] at HG2
  have HB2 := Lib.hid hB2
  clear hB2
  go_loopw [8] (fun kv wr => RpRel w n kv wr) (fun kv _ => n - (intOf kv).toNat)
  case atStart => exact ⟨m0, by have := HM0.out; omega, by simp, by have := HM0.out; omega, HG2.out, Fr.of_below HB2.out No⟩
  case round =>
    obtain ⟨k, hk, rfl, hk0, hg, hfr⟩ := hrel
    by_cases hlt : k < n
    · obtain ⟨m1, hm1⟩ : ∃ m1, m1 = min k (n - k) := ⟨_, rfl⟩
      have HM1 := Lib.hid hm1
      have HK0 := Lib.hid hk0
      have HGK := Lib.hid hg
      have HFK := Lib.hid hfr
      have hsp := rowBl_splice (n := n) (k := k) (m := m1) (by omega)
      have HSP := Lib.hid hsp
      have HW : Hid (IntKind.i64.wrap ((k : Int) + (m1 : Int)) = ((k + m1 : Nat) : Int)) := Lib.hid (by rw [IntKind.wrap_i64]; have := HM1.out; omega)
      have hltI : (k : Int) < (n : Int) := by omega
      have hkn : ¬ n = k := by omega
      have hkn2 : ¬ n < k := by omega
      clear hm1 hk0 hg hfr hsp
      have HS1 : Hid ((List.replicate m1 (Value.bool true)).length = Nat.min k (n - k)) := Lib.hid (by rw [List.length_replicate]; exact HM1.out)
      have HS2 : Hid (∀ (j : Nat) (v : Value), (List.replicate m1 (Value.bool true))[j]? = some v → wr.drew.cell? ((⟨w.heap.size, 0, none⟩ : Addr).add j) = some v) := Lib.hid fun j v hv => by
        have h7 := (List.getElem?_eq_some_iff.1 hv).1
        rw [List.length_replicate] at h7
        rw [List.getElem?_replicate_of_lt h7] at hv
        injection hv with hv
        subst hv
        have hb : Blk wr.drew w.heap.size 4 (rowBl n k).toArray := HGK.out
        rw [add_zero, hb.cell]
        have := HM1.out
        have hjk : j < k := by omega
        rw [List.getElem?_toArray]
        unfold rowBl
        rw [List.getElem?_append_left (by rw [List.length_replicate]; exact hjk), List.getElem?_replicate_of_lt hjk]
      have HS3 : Hid (k + (List.replicate m1 (Value.bool true)).length ≤ (rowBl n k).length) := Lib.hid (by rw [List.length_replicate, rowBl_len hk]; have := HM1.out; omega)
      have HS4 : Hid (∀ v ∈ List.replicate m1 (Value.bool true), v.oneCell' = true) := Lib.hid fun v hv => by rw [List.eq_of_mem_replicate hv]; rfl
      have HS5 : Hid (Below w.heap.size w wr.drew) := Lib.hid (HFK.out.drew.belowNo)
      have HG9 : Hid (wr.drew.heap[w.heap.size]? = some (.cells (rowBl n k).toArray 4 (0, 0))) := HGK
      have HWI := HW.out
      go_upto_region 9 with (fail)
      have HP5 : Hid (0 < (List.replicate m1 (Value.bool true)).length → (some (⟨w.heap.size, k, none⟩ : Addr)) = some ⟨w.heap.size, k, none⟩ ∧ ∃ ad', some (⟨w.heap.size, 0, none⟩ : Addr) = some ad' ∧ ∀ j v, (List.replicate m1 (Value.bool true))[j]? = some v → wr.drew.cell? (ad'.add j) = some v) := Lib.hid fun _ => ⟨rfl, _, rfl, HS2.out⟩
      go_region_law (refine step_copy_splice (w := wr.drew) (hgd := rfl) (d := .tmp 41) (s := .tmp 44) (dT := 108) (sT := 108) (ho := rfl) (elem := 4) (hu := Tryz.underlying108) (hsz := bsize) (dp := some ⟨w.heap.size, k, none⟩) (sp := some ⟨w.heap.size, 0, none⟩) (dLen := n - k) (dCap := n - k) (sLen := k) (sCap := n) (hd := by simp [go_sem]) (hs := by simp [go_sem]) (g := w.heap.size) (off := k) (cur := rowBl n k) (t := 4) (hg := HG9.out) (cs := List.replicate m1 (.bool true)) (hn := HS1.out) (hpos := HP5.out) (hfit := HS3.out) (h1 := HS4.out) (B := w.heap.size) (w0 := w) (hb := HS5.out) (hBg := Nat.le_refl _) (h := ?_); intro w4 hg4 hb4)
      rw [HSP.out] at hg4
      have HG4 := Lib.hid hg4
      have HB4 := Lib.hid hb4
      clear hg4 hb4
      go_wp2
      go_roundw
      case rel =>
        have h1 := HM1.out
        have h2 := HK0.out
        exact ⟨k + m1, by omega, by rfl, by omega, HG4.out, Fr.of_below HB4.out No⟩
      case measure =>
        have h1 := HM1.out
        have h2 := HK0.out
        simp [intOf]
        omega
    · obtain rfl : k = n := by omega
      have HGK := Lib.hid hg
      have HFK := Lib.hid hfr
      clear hg hfr
      go_wp2
      go_ret
      refine ⟨_, rfl, ⟨by rw [List.length_replicate, Nat.mul_one], .inr ⟨w.heap.size, k, _, rfl, HGK.out, Nat.le_refl _, by simp only [maxLen]; omega, by rw [List.size_toArray, rowBl_len (Nat.le_refl _)]; omega, ?_⟩⟩, HFK.out.mono fun _ _ h => False.elim h, .inr ⟨_, rfl, Nat.le_refl _⟩⟩
      show (rowBl k k).toArray.toList.take (k * 1) = _
      rw [Nat.mul_one]
      unfold rowBl
      rw [Nat.sub_self]
      simp
end Go.Proofs.YtcpgamidimfflaaGreat
namespace Go.Proofs.YtcpgamidimfflaaGreat
open Go.RowKit Go.My Go.Maps Go.WideMaps
set_option linter.unusedSimpArgs false
set_option linter.unusedVariables false
attribute [local go_sem ↓] Go.wp_at_zero Go.wp_at_succ
def fO (l : List In2) (x : Int) : In2 := l.getD x.toNat (0, 0)
theorem fO_at {l : List In2} {a : Nat} (h : a < l.length) : fO l (a : Int) = l[a] := by
  unfold fO
  rw [Int.toNat_natCast, List.getD_eq_getElem?_getD, List.getElem?_eq_getElem h]
  rfl
theorem opn_list {s : Ru} (h : RuI s) {L : List Int} (hp : L.Pairwise (· < ·)) (hm : ∀ x, x ∈ L ↔ openX (graphW s s.ws) (List.replicate s.ws.length true) x) :
    (∀ x ∈ L, ∃ a : Nat, x = (a : Int) ∧ a < s.ws.length) ∧ (L.map (fO s.ws)).Nodup ∧ ∀ a, a ∈ L.map (fO s.ws) ↔ Opn s.ks s.dp a ∧ s.wt a = true := by
  have h1 : ∀ x ∈ L, ∃ a : Nat, x = (a : Int) ∧ a < s.ws.length := fun x hx => by
    obtain ⟨a, ha, e, hu, _⟩ := (hm x).1 hx
    refine ⟨a, e, ?_⟩
    rcases Nat.lt_or_ge a s.ws.length with c | c
    · exact c
    · rw [unk_out (by simpa using c)] at hu
      cases hu
  refine ⟨h1, nodup_map_inj (hp.imp fun h e => by subst e; exact absurd h (Int.lt_irrefl _)) fun x hx y hy e => ?_, fun a => ?_⟩
  · obtain ⟨i, rfl, hi⟩ := h1 x hx
    obtain ⟨j, rfl, hj⟩ := h1 y hy
    rw [fO_at hi, fO_at hj] at e
    rw [(List.getElem_inj (ws_rise h).nodup).1 e]
  · rw [List.mem_map]
    constructor
    · rintro ⟨x, hx, rfl⟩
      obtain ⟨i, rfl, hi⟩ := h1 x hx
      rw [fO_at hi]
      exact ⟨(ws_open h i hi).1 ((hm _).1 hx), (ws_mem h _).1 (List.getElem_mem hi)⟩
    · rintro ⟨ho, hw⟩
      obtain ⟨i, hi, rfl⟩ := List.mem_iff_getElem.1 ((ws_mem h a).2 hw)
      exact ⟨(i : Int), (hm _).2 ((ws_open h i hi).2 ho), fO_at hi⟩
theorem rows_snoc {w : World} {B gs : Nat} {vs : List Value} {G : List (List Int)} (h : IRows B w gs vs G) {w' : World} {A : Option Addr} {c : Nat} (ho : Own w' 66 1 (.slice A (vs.length + 1) c) (vs.length + 1) (vs ++ [.slice none 0 0])) (hf : Fr (AtO (some gs)) w w') : RdG w' (fun _ => True) A (G ++ [[]]) := by
  refine ⟨vs ++ [.slice none 0 0], ?_, fun i L hL => ?_⟩
  · have := ho.rd.more (G := fun _ => True) (fun _ _ => trivial)
    rw [List.length_append, ← h.len]
    exact this
  · rcases Nat.lt_or_ge i G.length with c1 | c1
    · rw [List.getElem?_append_left c1] at hL
      obtain ⟨A1, c2, h1, h2, h3, h4, h5⟩ := h.cell c1
      have e : G[i] = L := by rw [List.getElem?_eq_getElem c1] at hL; injection hL
      rw [e] at h1 h3 h4
      refine ⟨A1, c2, ?_, ?_, h4, h5⟩
      · rw [List.getElem?_append_left (by rw [h.len]; exact c1)]
        exact h1
      · refine ((h3.fr hf (fun k hk e2 => ?_)).rd).more (fun _ _ => trivial)
        have e3 : some gs = some k := e2
        injection e3 with e3
        subst e3
        exact h.ne h1 hL hk
    · have e : i = G.length := by
        have := (List.getElem?_eq_some_iff.1 hL).1
        rw [List.length_append] at this
        simp at this
        omega
      subst e
      rw [List.getElem?_append_right (Nat.le_refl _), Nat.sub_self] at hL
      injection hL with hL
      subst hL
      refine ⟨none, 0, ?_, Rd.none_, Nat.le_refl _, Nat.zero_le _⟩
      rw [List.getElem?_append_right (by rw [h.len]; exact Nat.le_refl _), h.len, Nat.sub_self]
      rfl
def OpR (w0 : World) (l : List In2) (L : List Int) (lv iv : Value) (wr : World) : Prop := ∃ k : Nat, k ≤ L.length ∧ iv = .int .i64 (k : Int) ∧ Own wr 30 2 lv k (ins2 ((L.take k).map (fO l))) ∧ Fr No w0 wr ∧ Newer w0.heap.size none lv.ownBlock
set_option maxRecDepth 100000 in
set_option maxHeartbeats 4000000 in
theorem ropen_any (w : World) (r : Pr) (s : Ru) (h : RnS w r s) (hn : s.ks.length ≤ 60) (hm : ∀ i, (s.dp i).length ≤ 30) :
    Calls Tryz.prog 54 #[.pointer (some ⟨r.p, 0, none⟩)] w fun e w' => ∃ O : List In2, O.Nodup ∧ (∀ a, a ∈ O ↔ Opn s.ks s.dp a ∧ s.wt a = true) ∧ RetOwn w 30 2 none O.length (ins2 O) e w' := by
  have HWA := Lib.hid (waitss_any w r s h)
  have HH := Lib.hid h
  have hwl : s.ws.length ≤ 60 := Nat.le_trans (List.length_filter_le _ _) hn
  have HOL : Hid (∀ {L : List Int}, L.Pairwise (· < ·) → (∀ x, x ∈ L ↔ openX (graphW s s.ws) (List.replicate s.ws.length true) x) → (∀ x ∈ L, ∃ a : Nat, x = (a : Int) ∧ a < s.ws.length) ∧ (L.map (fO s.ws)).Nodup ∧ ∀ a, a ∈ L.map (fO s.ws) ↔ Opn s.ks s.dp a ∧ s.wt a = true) := Lib.hid fun hp hm => opn_list h.inv hp hm
  have HGR : Hid (∀ (W : World) (F : Nat → Prop) (A : Option Addr) (c : Nat), Fr No w W → Rd W F 2 A s.ws.length (ins2 s.ws) → Calls Tryz.prog 89 #[.pointer (some ⟨r.p, 0, none⟩), .slice A s.ws.length c, .int .i64 (s.ws.length : Int)] W (RetG W (graphL s s.ws s.ws.length))) := Lib.hid fun W F A c hW hR => graph_any W r s F A c s.ws s.ws.length (h.no hW) hR (fun i hi => h.inv.sub i ((ws_mem h.inv i).1 hi)) (by omega) (fun i => Nat.le_trans (hm i) (by omega))
  have HRP : Hid (∀ (W : World) (F : Nat → Prop) (A : Option Addr) (c : Nat), Rd W F 1 A 1 [.bool true] → Calls Tryz.prog 90 #[.slice A 1 c, .int .i64 (s.ws.length : Int)] W (RetOwn W 4 1 none s.ws.length (List.replicate s.ws.length (.bool true)))) := Lib.hid fun W F A c hR => repeat_any F A c s.ws.length W hR (by omega)
  have HGL : Hid (∀ L ∈ graphW s s.ws, L.length ≤ 10000) := Lib.hid fun L hL => by
    unfold graphW at hL
    rcases List.mem_append.1 hL with hL | hL
    · unfold graphL at hL
      obtain ⟨i, _, rfl⟩ := List.mem_map.1 hL
      have := rowG_le s.ks s.ws s.ws.length (s.dp i)
      have := hm i
      omega
    · rw [List.mem_singleton] at hL
      subst hL
      simp
  have HGN : Hid ((graphW s s.ws).length = s.ws.length + 1) := Lib.hid (by unfold graphW; rw [List.length_append, graphL_len]; rfl)
  have HOP : Hid (∀ (W : World) (F F2 : Nat → Prop) (A K : Option Addr) (c kc : Nat), RdG W F A (graphL s s.ws s.ws.length ++ [[]]) → Rd W F2 1 K s.ws.length (List.replicate s.ws.length (.bool true)) → Calls Tryz.prog 91 #[.slice A (s.ws.length + 1) c, .slice K s.ws.length kc] W (RetX W (openX (graphW s s.ws) (List.replicate s.ws.length true)))) := Lib.hid fun W F F2 A K c kc hG hK => by
    have h1 := open_any2 W F F2 A K c kc (graphW s s.ws) (List.replicate s.ws.length true) hG (by rw [List.length_replicate, List.map_replicate]; exact hK) (by rw [HGN.out]; omega) HGL.out (by rw [List.length_replicate]; omega)
    rw [HGN.out, List.length_replicate] at h1
    exact h1
  have HGLN : Hid ((graphL s s.ws s.ws.length).length = s.ws.length) := Lib.hid (graphL_len _ _ _)
  clear h hn hm HGL
  generalize hnn : s.ws.length = n at *
  have HNN := Lib.hid hnn
  clear hnn
  go_enter Tryz.func54, Tryz.ntmps54
  go_upto_region 2 with (go_at_call 27; (with_reducible refine HWA.out.mono ?_); rintro _ w1 ⟨v1, rfl, ho1, hf1, hn1⟩; obtain ⟨A1, c1, rfl, -, -⟩ := ho1.form; have HO1 := Lib.hid ho1; have HF1 := Lib.hid (fr_at_none hf1); clear ho1 hf1 hn1)
  have HG1 : Hid (Calls Tryz.prog 89 #[.pointer (some ⟨r.p, 0, none⟩), .slice A1 n c1, .int .i64 (n : Int)] w1 fun e w' => ∃ (gs : Nat) (vs : List Value), e = .returned (.slice (some ⟨gs, 0, none⟩) n n) ∧ IRows w1.heap.size w' gs vs (graphL s s.ws n) ∧ Fr No w1 w') := Lib.hid ((HGR.out w1 _ A1 c1 HF1.out HO1.out.rd).mono fun e w' h => by
    obtain ⟨gs, vs, h1, h2, h3⟩ := h
    rw [HGLN.out] at h1
    exact ⟨gs, vs, h1, h2, h3⟩)
  go_upto_region 3 with (go_at_call 89; (with_reducible refine HG1.out.mono ?_); rintro _ w2 ⟨gs, vs, rfl, hI2, hf2⟩; have HI2 := Lib.hid hI2; have HF2 := Lib.hid hf2; clear hI2 hf2)
  have HR3 : Hid (Calls Tryz.prog 90 #[.slice (some ⟨w2.heap.size, 0, none⟩) 1 1, .int .i64 (n : Int)] (w2.alloc (.cells #[.bool true] 4)) (RetOwn (w2.alloc (.cells #[.bool true] 4)) 4 1 none n (List.replicate n (.bool true)))) := Lib.hid (HRP.out _ (fun _ => True) _ _ ⟨rfl, fun _ => ⟨_, rfl, trivial, fun j u hu => by
    have hj : j = 0 := by have := (List.getElem?_eq_some_iff.1 hu).1; simp at this; omega
    subst hj
    have hb := Blk.new w2 4 #[.bool true]
    rw [add_zero, hb.cell]
    exact hu⟩⟩)
  go_upto_region 5 with (go_at_call 90; (with_reducible refine HR3.out.mono ?_); rintro _ w4 ⟨v4, rfl, ho4, hf4, hn4⟩; obtain ⟨K, kc, rfl, -, -⟩ := ho4.form; have HO4 := Lib.hid ho4; have HF4 := Lib.hid (Fr.trans ((Fr.refl No w2).alloc (.cells #[.bool true] 4)) (fr_at_none hf4)); clear ho4 hf4 hn4)
  have hI4 := HI2.out.no HF4.out
  have hvl : vs.length = n := by rw [hI4.len, HGLN.out]
  have hI4o := hI4.out
  rw [hvl] at hI4o
  have HI4 := Lib.hid hI4
  have HI4O := Lib.hid hI4o
  have HVL := Lib.hid hvl
  clear hI4 hvl hI4o
  obtain ⟨cur4, hcur4⟩ := HI4O.out.blk gs rfl
  have HK4 : Hid (∀ k, (Value.slice K n kc).ownBlock = some k → ¬ AtO (Value.slice (some ⟨gs, 0, none⟩) n n).ownBlock k) := Lib.hid fun k hk e => by
    have e : some gs = some k := e
    rw [← e] at hk
    exact HO4.out.ne_ hcur4 (by decide) hk
  have HO14 := Lib.hid (HO1.out.fr (HF2.out.trans HF4.out) (fun _ _ h => h))
  have HA4 : Hid (∀ k, (Value.slice A1 n c1).ownBlock = some k → ¬ AtO (Value.slice (some ⟨gs, 0, none⟩) n n).ownBlock k) := Lib.hid fun k hk e => by
    have e : some gs = some k := e
    rw [← e] at hk
    exact HO14.out.ne_ hcur4 (by decide) hk
  have HGB : Hid (w1.heap.size ≤ gs) := Lib.hid HI2.out.base
  clear hcur4
  go_wp2_with (first
    | (at_builtin; refine wpList_app _ rfl (.tmp 20) (.tmp 21) 107 107 rfl elG (HI4O.out.alloc (.cells #[.slice none 0 0] 66)) rfl (Src.of_new (cs := #[.slice none 0 0]) (t := 66) w4.heap.size (heap_alloc_new w4 _) Tryz.underlying107 rfl (by simp [Value.oneCell'])) rfl (by simp only [maxLen]; omega) (by omega) ?_; intro v5 w5 hown5 hfr5 hnew5; obtain ⟨A5, c5, rfl, -, -⟩ := hown5.form; have HF5 := Lib.hid (Fr.trans (Fr.mono ((Fr.refl No w4).alloc (.cells #[.slice none 0 0] 66)) (fun _ _ h => False.elim h)) hfr5); have HG5 := Lib.hid (rows_snoc (HI4.out.no ((Fr.refl No w4).alloc (.cells #[.slice none 0 0] 66))) (by rw [HVL.out]; exact hown5) hfr5); have HO5 := Lib.hid hown5; have HFR5 := Lib.hid hfr5; clear hown5 hfr5 hnew5)
    | (go_at_call 91; (with_reducible refine (HOP.out w5 _ _ A5 K c5 kc HG5.out (HO4.out.fr HF5.out HK4.out).rd).mono ?_); rintro _ w6 ⟨L, hp6, hm6, v6, rfl, ho6, hf6, hn6⟩; obtain ⟨A6, c6, rfl, -, -⟩ := ho6.form; have HO6 := Lib.hid ho6; have HF6 := Lib.hid (fr_at_none hf6); have HOL6 := Lib.hid (HOL.out hp6 hm6); clear hp6 hm6 ho6 hf6 hn6))
  have HFW : Hid (Fr No w w6) := Lib.hid (((HF1.out.trans (HF2.out.trans HF4.out)).trans' HF5.out (fun k hk hlt => by
    have e : some gs = some k := hk
    injection e with e
    have := HGB.out
    have := HF1.out.size
    omega)).trans HF6.out)
  have HWS : Hid (Rd w6 (fun _ => True) 2 A1 n (ins2 s.ws)) := Lib.hid (((HO14.out.fr HF5.out HA4.out).fr HF6.out (fun _ _ h => h)).rd.more fun _ _ => trivial)
  have HL6 : Hid (Rd w6 (fun _ => True) 1 A6 L.length (is_ L)) := Lib.hid (HO6.out.rd.more fun _ _ => trivial)
  have hL60 : L.length ≤ 60 := by
    have h1 := (nodup_len HOL6.out.2.1 (b := s.ws) fun x hx => by
      obtain ⟨y, hy, rfl⟩ := List.mem_map.1 hx
      obtain ⟨a, rfl, ha⟩ := HOL6.out.1 y hy
      rw [fO_at (by rw [HNN.out]; exact ha)]
      exact List.getElem_mem _).1
    rw [List.length_map, HNN.out] at h1
    omega
  clear HO4 HF4 HI4 HI4O HF5 HG5 HO5 HFR5 HO6 HF6 HK4 HO14 HA4 HGB HI2 HF2 HO1 HF1 HR3 HG1
  go_loopw [6, 26] (fun lv iv wr => OpR w6 s.ws L lv iv wr) (fun _ iv _ => L.length - (intOf iv).toNat)
  case atStart => exact ⟨0, Nat.zero_le _, rfl, Own.nil _ _ _, Fr.refl _ _, .inl rfl⟩
  case round =>
    obtain ⟨k, hk, rfl, hown, hfr, hnew⟩ := hrel
    by_cases hlt : k < L.length
    · obtain ⟨ad2, u, rfl, _, hu, hx⟩ := (HL6.out.fr (by decide) hfr (fun _ _ _ h => h)).at_ hlt
      rw [is_at _ k hlt] at hu
      injection hu with hu
      subst hu
      obtain ⟨a, hka, han⟩ := HOL6.out.1 _ (List.getElem_mem hlt)
      have hrd := HWS.out.fr (by decide) hfr (fun _ _ _ h => h)
      rw [← HNN.out] at hrd
      obtain ⟨ad3, rfl, _, p0, p1⟩ := in2_at hrd a (by rw [HNN.out]; exact han)
      have HTK : Hid ((L.take (k + 1)).map (fO s.ws) = (L.take k).map (fO s.ws) ++ [s.ws[a]'(by rw [HNN.out]; exact han)]) := Lib.hid (by
        rw [List.take_succ_eq_append_getElem hlt, List.map_append, List.map_cons, List.map_nil, hka, fO_at (by rw [HNN.out]; exact han)])
      rw [hka] at hx
      generalize s.ws[a]'(by rw [HNN.out]; exact han) = x at *
      obtain ⟨x1, x2⟩ := x
      simp only at p0 p1
      have HOWN := Lib.hid hown
      have HFR := Lib.hid hfr
      have HNEW := Lib.hid hnew
      clear hown hfr hnew hka hrd
      go_wp2_with (at_builtin; refine wpList_app _ rfl (.tmp 30) (.tmp 35) 36 36 rfl elIn (HOWN.out.alloc (.cells #[.int .i64 x1, .int .i64 x2] 30)) rfl (Src.of_new (cs := #[.int .i64 x1, .int .i64 x2]) (t := 30) wr.heap.size (heap_alloc_new wr _) Tryz.underlying36 rfl (by simp [Value.oneCell'])) rfl (by simp only [maxLen]; omega) (by omega) ?_; intro v7 w7 hown7 hfr7 hnew7)
      have HO7 : Hid (Own w7 30 2 v7 (k + 1) (ins2 ((L.take (k + 1)).map (fO s.ws)))) := Lib.hid (by rw [HTK.out, ins2_append]; exact hown7)
      have HF7 : Hid (Fr No w6 w7) := Lib.hid (fr_no HFR.out HNEW.out (Fr.trans ((Fr.refl _ _).alloc _) hfr7))
      have HN7 : Hid (Newer w6.heap.size none v7.ownBlock) := Lib.hid (HNEW.out.trans (Newer.of hnew7) (by have := HFR.out.size; simp; omega))
      clear hown7 hfr7 hnew7
      go_roundw
      case rel => exact ⟨k + 1, hlt, by go_num, HO7.out, HF7.out, HN7.out⟩
      case measure => simp [intOf]; omega
    · obtain rfl : k = L.length := by omega
      rw [List.take_length] at hown
      have hlm : L.length = (L.map (fO s.ws)).length := (List.length_map ..).symm
      rw [hlm] at hown
      have HOWN := Lib.hid hown
      clear hlm
      have HFR := Lib.hid hfr
      have HNEW := Lib.hid hnew
      clear hown hfr hnew
      go_wp2
      go_ret
      refine ⟨L.map (fO s.ws), HOL6.out.2.1, HOL6.out.2.2, _, rfl, HOWN.out, (HFW.out.trans HFR.out).mono fun _ _ h => False.elim h, ?_⟩
      rcases HNEW.out with e | ⟨j, e, hj⟩
      · exact .inl e
      · exact .inr ⟨j, e, Nat.le_trans HFW.out.size hj⟩
end Go.Proofs.YtcpgamidimfflaaGreat
namespace Go.Proofs.YtcpgamidimfflaaGreat
open Go.RowKit Go.My Go.My.Kn Go.Maps
set_option linter.unusedSimpArgs false
set_option linter.unusedVariables false
def ix : List (List Nat) → Nat → Nat
  | [], _ => 0
  | K :: L, p => if p ∈ K then 0 else ix L p + 1
theorem ix_in : ∀ {L : List (List Nat)} {p i : Nat} (hi : i < L.length), p ∈ L[i] → ix L p ≤ i
  | [], _, i, hi, _ => absurd hi (Nat.not_lt_zero _)
  | K :: L, p, 0, _, h => by unfold ix; rw [if_pos (by simpa using h)]; exact Nat.le_refl _
  | K :: L, p, i + 1, hi, h => by
    unfold ix
    have := ix_in (L := L) (p := p) (i := i) (by simpa using hi) (by simpa using h)
    split <;> omega
theorem ix_mem : ∀ {L : List (List Nat)} {p : Nat} (h : ix L p < L.length), p ∈ L[ix L p]
  | [], _, h => absurd h (Nat.not_lt_zero _)
  | K :: L, p, h => by
    by_cases e : p ∈ K
    · have h0 : ix (K :: L) p = 0 := by unfold ix; rw [if_pos e]
      simp only [h0, List.getElem_cons_zero]; exact e
    · have h0 : ix (K :: L) p = ix L p + 1 := by conv => lhs; unfold ix
                                                 rw [if_neg e]
      have hl : ix L p < L.length := by rw [h0] at h; simpa using h
      simp only [h0, List.getElem_cons_succ]
      exact ix_mem hl
section
variable {n : Nat} {V : Nat → Nat → Bool}
theorem knseq_ord (h : Go.My.Kn.Reach n V) {D : List Nat} {L : List (List Nat)} (k : KnSeq n V D L) {i p : Nat} (hi : i < n) (hp : p < n) (ni : nm n V i ∉ D) (np : nm n V p ∉ D) (v : V i p = true) : ix L p ≤ ix L i := by
  induction k with
  | nil hno => exact Nat.le_refl _
  | @cons D L a hf hl hk ih =>
    have hn := least_name h hf hl
    by_cases ep : p ∈ cls n V a
    · unfold ix; rw [if_pos ep]; exact Nat.zero_le _
    · have ei : i ∉ cls n V a := fun ei => by
        have hai := ((mu_iff _ _).1 ((mem_cls _ _).1 ei).2)
        have hap : V a p = true := by
          rcases hai with rfl | ⟨h1, h2⟩
          · exact v
          · exact h.tr _ _ _ h1 v
        by_cases hpa : V p a = true
        · exact ep ((mem_cls _ _).2 ⟨hp, (mu_iff _ _).2 (.inr ⟨hap, hpa⟩)⟩)
        · exact np (hf.2.2 p hap (by simpa using hpa))
      have nn : ∀ {q : Nat}, q < n → q ∉ cls n V a → nm n V q ∉ D → nm n V q ∉ a :: D := fun {q} hq e1 e2 e3 => by
        rcases List.mem_cons.1 e3 with e4 | e4
        · have hm : mu V a q = true := (nm_eq h hf.1 hq).1 (by rw [hn, e4])
          exact e1 ((mem_cls _ _).2 ⟨hq, hm⟩)
        · exact e2 e4
      have := ih (nn hi ei ni) (nn hp ep np)
      unfold ix
      rw [if_neg ep, if_neg ei]
      omega
end
section
variable {G : List (List Int)} {L : List (List Nat)}
structure WholeF (G : List (List Int)) (L : List (List Nat)) : Prop where
  up : ∀ K ∈ L, K.Pairwise (· < ·)
  lt : ∀ K ∈ L, ∀ p ∈ K, p < G.length
  ne : ∀ K ∈ L, K ≠ []
  two : ∀ K ∈ L, ∀ p ∈ K, ∀ q ∈ K, p ≠ q → via' G p q = true
  here : ∀ i (hi : i < L.length), ∀ p ∈ L[i], ix L p = i
  all : ∀ p, p < G.length → ix L p < L.length
  ord : ∀ i p, i < G.length → p < G.length → via' G i p = true → ix L p ≤ ix L i
  len : L.flatten.length = G.length
theorem whole_of (hL : KnSeq G.length (via' G) [] L) : WholeF G L := by
  have hr := (reachR G).toReach
  obtain ⟨a1, a2, a3⟩ := knseq_all hr hL
  have hup : ∀ K ∈ L, K.Pairwise (· < ·) := fun K hK => by obtain ⟨i, _, _, rfl⟩ := a1 K hK; exact cls_up _
  have hlt : ∀ K ∈ L, ∀ p ∈ K, p < G.length := fun K hK p hp => by obtain ⟨i, _, _, rfl⟩ := a1 K hK; exact ((mem_cls _ _).1 hp).1
  have hcl : ∀ K ∈ L, ∀ p ∈ K, K = cls G.length (via' G) p := fun K hK p hp => by
    obtain ⟨i, _, _, rfl⟩ := a1 K hK
    exact cls_eq hr ((mem_cls _ _).1 hp).2
  have hall : ∀ p, p < G.length → ix L p < L.length := fun p hp => by
    obtain ⟨i, hi, e⟩ := List.getElem_of_mem (a2 p hp (by simp))
    have := ix_in hi (p := p) (by rw [e]; exact self_cls hp)
    omega
  have hhere : ∀ i (hi : i < L.length), ∀ p ∈ L[i], ix L p = i := fun i hi p hp => by
    have h1 := ix_in hi hp
    have h2 : ix L p < L.length := by omega
    have h3 := ix_mem h2
    have e1 := hcl _ (List.getElem_mem hi) p hp
    have e2 := hcl _ (List.getElem_mem h2) p h3
    exact (List.getElem_inj a3).1 (e2.trans e1.symm)
  refine ⟨hup, hlt, fun K hK e => ?_, fun K hK p hp q hq hne => ?_, hhere, hall, fun i p hi hp v => knseq_ord hr hL hi hp (by simp) (by simp) v, ?_⟩
  · obtain ⟨i, hi, _, rfl⟩ := a1 K hK
    have := self_cls (V := via' G) hi
    rw [e] at this; cases this
  · rw [hcl K hK p hp] at hq
    rcases (mu_iff _ _).1 ((mem_cls _ _).1 hq).2 with e | ⟨h1, _⟩
    · exact absurd e.symm hne
    · exact h1
  · have hnd : L.flatten.Nodup := by
      refine List.pairwise_flatten.2 ⟨fun K hK => (hup K hK).imp fun h => by omega, ?_⟩
      rw [List.pairwise_iff_getElem]
      intro i j hi hj hij p hp q hq e
      subst e
      have e1 := hhere i hi p hp
      have e2 := hhere j hj p hq
      omega
    have hm : ∀ p, p ∈ L.flatten ↔ p ∈ List.range G.length := fun p => by
      rw [List.mem_flatten, List.mem_range]
      constructor
      · rintro ⟨K, hK, hp⟩; exact hlt K hK p hp
      · intro hp; exact ⟨_, a2 p hp (by simp), self_cls hp⟩
    rw [((List.perm_ext_iff_of_nodup hnd List.nodup_range).2 hm).length_eq, List.length_range]
def sn (L : List (List Nat)) (i k p : Nat) : Nat := if ix L p < i then ix L p + 1 else if ix L p = i ∧ p ∈ ((L[i]?).getD []).take k then i + 1 else 0
end
end Go.Proofs.YtcpgamidimfflaaGreat
namespace Go.Proofs.YtcpgamidimfflaaGreat
open Go.RowKit Go.My Go.My.Kn Go.Maps
set_option linter.unusedSimpArgs false
set_option linter.unusedVariables false
attribute [local go_sem ↓] Go.wp_at_zero Go.wp_at_succ
set_option maxRecDepth 100000 in
set_option maxHeartbeats 1000000 in
theorem growI_any (n : Nat) (w : World) (hn : n ≤ 1000) :
    Calls Tryz.prog 159 #[.slice none 0 0, .int .i64 n] w (RetOwn w 3 1 none 0 []) := by
  by_cases h0 : 0 < n
  · have hX : Hid (n ≤ maxLen ∧ n * 8 ≤ 140737488355328) := by
      refine ⟨?_, ?_⟩ <;> (try simp only [maxLen]) <;> omega
    go_enter Tryz.func159, Tryz.ntmps159
    go_wp2_with (at_builtin; refine wpList_app_make _ rfl (.tmp 20) (.tmp 21) 66 3 rfl elKI Tryz.underlying3 n h0 rfl rfl hX.out.1 hX.out.2 ?_; intro cap w1 xs hown hfr hc1 hc2)
    go_ret
    exact ⟨_, rfl, hown.zero, hfr.mono (fun _ _ h => False.elim h), .inr ⟨_, rfl, Nat.le_refl _⟩⟩
  · obtain rfl : n = 0 := by omega
    go_enter Tryz.func159, Tryz.ntmps159
    go_wp2
    go_ret
    exact ⟨_, rfl, Own.nil _ _ _, Fr.refl _ _, .inl rfl⟩
def flatI (Ls : List (List Int)) : List Int := Ls.flatten
theorem flatI_take {Ls : List (List Int)} {k : Nat} (h : k < Ls.length) : flatI (Ls.take (k + 1)) = flatI (Ls.take k) ++ Ls[k] := by
  unfold flatI
  rw [List.take_succ_eq_append_getElem h, List.flatten_append]
  simp
theorem flatI_le {Ls : List (List Int)} (k : Nat) : (flatI (Ls.take k)).length ≤ (flatI Ls).length := by
  have e : Ls = Ls.take k ++ Ls.drop k := (List.take_append_drop k Ls).symm
  have : flatI Ls = flatI (Ls.take k) ++ flatI (Ls.drop k) := by unfold flatI; rw [← List.flatten_append, ← e]
  rw [this, List.length_append]
  omega
def CcRelI (w : World) (Ls : List (List Int)) (sz iv : Value) (wr : World) : Prop := ∃ k : Nat, k ≤ Ls.length ∧ iv = .int .i64 k ∧ sz = .int .i64 ((flatI (Ls.take k)).length : Nat) ∧ wr = w
def CdRelI (w : World) (Ls : List (List Int)) (lv iv : Value) (wr : World) : Prop := ∃ k : Nat, k ≤ Ls.length ∧ iv = .int .i64 k ∧ Own wr 3 1 lv (flatI (Ls.take k)).length (is_ (flatI (Ls.take k))) ∧ Fr No w wr ∧ Newer w.heap.size none lv.ownBlock
set_option maxRecDepth 100000 in
set_option maxHeartbeats 1000000 in
theorem concatI_any (F : Nat → Prop) (A : Option Addr) (c : Nat) (Ls : List (List Int)) (w : World) (h : RdG w F A Ls) (hl : Ls.length ≤ 100) (hL : (flatI Ls).length ≤ 1000) :
    Calls Tryz.prog 123 #[.slice A Ls.length c] w (RetOwn w 3 1 none (flatI Ls).length (is_ (flatI Ls))) := by
  have HH := Lib.hid h
  have HLE : Hid (∀ k, (flatI (Ls.take k)).length ≤ (flatI Ls).length) := fun k => flatI_le k
  clear h
  go_enter Tryz.func123, Tryz.ntmps123
  go_wp2
  go_loopw [3, 11] (fun sz iv wr => CcRelI w Ls sz iv wr) (fun _ iv _ => Ls.length - (intOf iv).toNat)
  case atStart => exact ⟨0, Nat.zero_le _, rfl, rfl, rfl⟩
  case round =>
    obtain ⟨k, hk, rfl, rfl, rfl⟩ := hrel
    by_cases hlt : k < Ls.length
    · obtain ⟨ad, A', c', rfl, q0, _⟩ := HH.out.at_ k hlt
      have h1 := HLE.out (k + 1)
      have E : Hid ((flatI (Ls.take (k + 1))).length = (flatI (Ls.take k)).length + Ls[k].length) := by show _ = _; rw [flatI_take hlt, List.length_append]
      rw [E.out] at h1
      generalize Ls[k].length = m at *
      generalize (flatI (Ls.take k)).length = n at *
      have hn0 : ¬ ((n : Int) + (m : Int)) < 0 := by omega
      go_wp2
      go_roundw
      case rel => exact ⟨k + 1, by omega, by go_num, by rw [E.out]; go_num, rfl⟩
      case measure => simp [intOf]; omega
    · obtain rfl : k = Ls.length := by omega
      rw [List.take_length]
      obtain ⟨wo, rfl⟩ : ∃ wo : World, wo = wr := ⟨_, rfl⟩
      have HG := Lib.hid (growI_any (flatI Ls).length wo hL)
      go_wp2_with fail
      refine HG.out.mono ?_
      rintro e w1 ⟨v1, rfl, ho1, hf1', hn1⟩
      have hf1 := fr_at_none hf1'
      have HO1 := Lib.hid ho1
      have HF1 := Lib.hid hf1
      have HN1 := Lib.hid hn1
      clear ho1 hf1 hf1' hn1 HG
      go_wp2
      go_loopw [6, 27] (fun lv iv wx => CdRelI wo Ls lv iv wx) (fun _ iv _ => Ls.length - (intOf iv).toNat)
      case atStart => exact ⟨0, Nat.zero_le _, rfl, HO1.out, HF1.out, HN1.out⟩
      case round =>
        obtain ⟨k, hk, rfl, hown, hfr, hnew⟩ := hrel
        by_cases hlt : k < Ls.length
        · obtain ⟨ad, A', c', rfl, q0, hr, _⟩ := (HH.out.no hfr).at_ k hlt
          have h1 := HLE.out (k + 1)
          have E : Hid ((flatI (Ls.take (k + 1))).length = (flatI (Ls.take k)).length + Ls[k].length) := by show _ = _; rw [flatI_take hlt, List.length_append]
          have E2 : Hid (is_ (flatI (Ls.take (k + 1))) = is_ (flatI (Ls.take k)) ++ is_ Ls[k]) := by show _ = _; rw [flatI_take hlt, is_append]
          have HS : Hid (Src Tryz.prog wr 1 66 (.slice A' Ls[k].length c') Ls[k].length (is_ Ls[k])) := Src.of_rd hr (is_one _) Tryz.underlying66
          rw [E.out] at h1
          have hX : Hid ((flatI (Ls.take k)).length + Ls[k].length ≤ maxLen ∧ ((flatI (Ls.take k)).length + Ls[k].length) * 8 ≤ 140737488355328) := by
            refine ⟨?_, ?_⟩ <;> (try simp only [maxLen]) <;> omega
          have HOWN := Lib.hid hown
          have HFR := Lib.hid hfr
          have HNEW := Lib.hid hnew
          clear hown hfr hnew hr
          go_wp2_with (at_builtin; refine wpList_app _ rfl (.tmp 31) (.tmp 32) 66 66 rfl elKI HOWN.out rfl HS.out rfl hX.out.1 hX.out.2 ?_; intro v1 w3 hown3 hfr3 hnew3)
          go_roundw
          case rel =>
            refine ⟨k + 1, by omega, by go_num, ?_, fr_no HFR.out HNEW.out hfr3, HNEW.out.trans (Newer.of hnew3) HFR.out.size⟩
            rw [E.out, E2.out]
            exact hown3
          case measure => simp [intOf]; omega
        · obtain rfl : k = Ls.length := by omega
          rw [List.take_length] at hown
          go_wp2
          go_ret
          exact ⟨_, rfl, hown, hfr.mono (fun _ _ h => False.elim h), hnew⟩
end Go.Proofs.YtcpgamidimfflaaGreat
set_option linter.unusedVariables false
set_option linter.unusedSimpArgs false
namespace Go.My.Kn
section
variable {n : Nat} {V : Nat → Nat → Bool}
def NxR (P : Nat → Bool) (n j : Nat) (v : Int) : Prop := (v = -1 ∧ ∀ i, j ≤ i → i < n → P i = false) ∨ ∃ a : Nat, v = (a : Int) ∧ j ≤ a ∧ a < n ∧ P a = true ∧ ∀ i, j ≤ i → i < a → P i = false
theorem NxR.begin (P : Nat → Bool) (n : Nat) : NxR P n n (-1) := .inl ⟨rfl, fun i h1 h2 => by omega⟩
theorem NxR.no {P : Nat → Bool} {n j : Nat} {v : Int} (h : NxR P n (j + 1) v) (hp : P j = false) : NxR P n j v := by
  rcases h with ⟨h1, h2⟩ | ⟨a, h1, h2, h3, h4, h5⟩
  · refine .inl ⟨h1, fun i hi hn => ?_⟩
    rcases Nat.eq_or_lt_of_le hi with e | e
    · rw [← e]; exact hp
    · exact h2 i e hn
  · refine .inr ⟨a, h1, by omega, h3, h4, fun i hi hn => ?_⟩
    rcases Nat.eq_or_lt_of_le hi with e | e
    · rw [← e]; exact hp
    · exact h5 i e hn
theorem NxR.lt {P : Nat → Bool} {n j : Nat} {v : Int} (h : NxR P n j v) : -1 ≤ v ∧ v < (n : Int) ∨ v = -1 := by
  rcases h with ⟨h1, _⟩ | ⟨a, h1, _, h3, _⟩
  · exact .inr h1
  · exact .inl ⟨by omega, by omega⟩
end
end Go.My.Kn
namespace Go.My.Kn
set_option linter.unusedVariables false
theorem seq_len {n : Nat} {V : Nat → Nat → Bool} (h : Reach n V) {D : List Nat} {L : List (List Nat)} (hs : KnSeq n V D L) : D.Nodup → (∀ d ∈ D, d < n) → L.length + D.length ≤ n ∧ ∀ K ∈ L, K.length ≤ n := by
  induction hs with
  | nil _ => exact fun h1 h2 => ⟨by rw [List.length_nil, Nat.zero_add]; exact Go.Proofs.YtcpgamidimfflaaGreat.nodup_leN h1 h2, fun K hK => by cases hK⟩
  | @cons D L i hf hl hs ih =>
    intro h1 h2
    have hn := least_name h hf hl
    have hD : i ∉ D := by have := hf.2.1; rw [hn] at this; exact this
    obtain ⟨h3, h4⟩ := ih (List.nodup_cons.2 ⟨hD, h1⟩) fun d hd => by
      rcases List.mem_cons.1 hd with rfl | hd
      · exact hf.1
      · exact h2 d hd
    rw [List.length_cons] at h3 ⊢
    refine ⟨by omega, fun K hK => ?_⟩
    rcases List.mem_cons.1 hK with rfl | hK
    · unfold cls
      exact Nat.le_trans (List.length_filter_le _ _) (Nat.le_of_eq List.length_range)
    · exact h4 K hK
end Go.My.Kn
namespace Go.Proofs.YtcpgamidimfflaaGreat
open Go.RowKit Go.My Go.My.Kn Go.Maps
set_option linter.unusedSimpArgs false
set_option linter.unusedVariables false
attribute [local go_sem ↓] Go.wp_at_zero Go.wp_at_succ
theorem flatI_il : ∀ L : List (List Nat), flatI (L.map il) = il L.flatten
  | [] => rfl
  | K :: L => by
    rw [List.map_cons, List.flatten_cons]
    show il K ++ flatI (L.map il) = _
    rw [flatI_il L]
    unfold il
    rw [List.map_append]
set_option maxRecDepth 100000 in
set_option maxHeartbeats 2000000 in
theorem order_any2 (w : World) (F : Nat → Prop) (A : Option Addr) (c M : Nat) (G : List (List Int)) (hg : RdG w F A G) (hn : G.length ≤ 100) (hm : ∀ L ∈ G, L.length ≤ M) (hM : M ≤ 10000) (hnM : G.length * M ≤ 20000) :
    Calls Tryz.prog 88 #[.slice A G.length c] w fun e w' => ∃ L, KnSeq G.length (via' G) [] L ∧ RetOwn w 3 1 none L.flatten.length (is_ (il L.flatten)) e w' := by
  have HKA := Lib.hid (knots_any w F A c M G hg (by omega) hm hM hnM)
  have HN := Lib.hid hn
  have HCC : Hid (∀ (W : World) (L2 : List (List Nat)) (A2 : Option Addr) (c2 : Nat), KnSeq G.length (via' G) [] L2 → RdG W (fun k => w.heap.size ≤ k) A2 (L2.map il) → Calls Tryz.prog 123 #[.slice A2 L2.length c2] W (RetOwn W 3 1 none L2.flatten.length (is_ (il L2.flatten)))) := Lib.hid (fun W L2 A2 c2 hs2 hr2 => by
    have hwf := whole_of hs2
    have hre : Go.My.Kn.Reach G.length (via' G) := (reachR G).toReach
    have hl := (seq_len hre hs2 List.nodup_nil (fun d h => by cases h)).1
    have hfl : (flatI (L2.map il)).length = G.length := by rw [flatI_il]; unfold il; rw [List.length_map, hwf.len]
    have h := concatI_any _ A2 c2 (L2.map il) W hr2 (by rw [List.length_map]; have := HN.out; simp at hl; omega) (by rw [hfl]; have := HN.out; omega)
    rw [List.length_map, flatI_il] at h
    have e : (il L2.flatten).length = L2.flatten.length := by unfold il; rw [List.length_map]
    rw [e] at h
    exact h)
  clear hg hm hM hnM hn
  go_enter Tryz.func88, Tryz.ntmps88
  go_wp2_with (first
    | (go_at_call 124; (with_reducible refine HKA.out.mono ?_); rintro _ w3 ⟨L2, Aa, ca, rfl, p1, p2, p3, p4, p5⟩; have HS := Lib.hid p1; have HC2 := Lib.hid (HCC.out w3 L2 Aa ca p1 p2); have HF3 := Lib.hid p5; clear p1 p2 p3 p4 p5)
    | (go_at_call 123; (with_reducible refine HC2.out.mono ?_); rintro _ w4 ⟨v, rfl, ho, hf, hnw⟩; have HO := Lib.hid ho; have HF4 := Lib.hid hf; have HN4 := Lib.hid hnw; clear ho hf hnw))
  go_ret
  refine ⟨L2, HS.out, v, rfl, HO.out, (HF3.out.trans (fr_at_none HF4.out)).mono (fun _ _ h => False.elim h), ?_⟩
  rcases HN4.out with e | ⟨k, e, hk⟩
  · exact .inl e
  · exact .inr ⟨k, e, Nat.le_trans HF3.out.size hk⟩
end Go.Proofs.YtcpgamidimfflaaGreat
