/- Contracts of package frame: Wrap, Frame. -/
import Derived.Test.YtjfbpnhkdlbinaaFrame2
import Derived.Deep.WholeRow
import Derived.Deep.DeepCutAuto
namespace Go.Proofs.Ytjfbpnhkdlbinaa
open Go.RowKit Go.My
set_option linter.unusedSimpArgs false
set_option linter.unusedVariables false

/-- a list of byte lists, as a slice of slices -/
def RdL (w : World) (A : Option Addr) (l : List (List UInt8)) : Prop :=
  ∃ cells, Rd w (Lt w.heap.size) 1 A l.length cells ∧ ∀ (j : Nat) (d : List UInt8), l[j]? = some d → ∃ Aj cj, cells[j]? = some (.slice Aj d.length cj) ∧ Rd w (Lt w.heap.size) 1 Aj d.length (bs d) ∧ d.length ≤ cj ∧ cj ≤ maxLen
theorem RdL.below {w w' : World} {A : Option Addr} {l : List (List UInt8)} (h : RdL w A l) (hb : Below w.heap.size w w') : RdL w' A l := by
  obtain ⟨cells, hr, he⟩ := h
  have hs := hb.size
  refine ⟨cells, (hr.below hb fun _ h => h).more fun k hk => Nat.lt_of_lt_of_le hk hs, fun j d hd => ?_⟩
  obtain ⟨Aj, cj, h1, h2, h3⟩ := he j d hd
  exact ⟨Aj, cj, h1, (h2.below hb fun _ h => h).more fun k hk => Nat.lt_of_lt_of_le hk hs, h3⟩
theorem RdL.at_ {w : World} {A : Option Addr} {l : List (List UInt8)} (h : RdL w A l) {k : Nat} (hk : k < l.length) :
    ∃ ad Aj cj, A = some ad ∧ w.cell? (ad.add k) = some (.slice Aj l[k].length cj) ∧ Rd w (Lt w.heap.size) 1 Aj l[k].length (bs l[k]) ∧ l[k].length ≤ cj ∧ cj ≤ maxLen := by
  obtain ⟨cells, hr, he⟩ := h
  obtain ⟨Aj, cj, h1, h2, h3, h4⟩ := he k l[k] (List.getElem?_eq_getElem hk)
  obtain ⟨ad, u, hA, _, hx, hc⟩ := hr.at_ hk
  rw [h1] at hx
  injection hx with hx
  subst hx
  exact ⟨ad, Aj, cj, hA, hc, h2, h3, h4⟩

def AllOk (l : List (List UInt8)) : Prop := ∀ d ∈ l, OkLen d
instance (l : List (List UInt8)) : Decidable (AllOk l) := by unfold AllOk; infer_instance
/-- the bytes, and what is told -/
def wrapV (l : List (List UInt8)) : List UInt8 := if AllOk l then wrapF l else []
def wrapE (l : List (List UInt8)) : Nat := if AllOk l then 0 else 1
def RetWrap (w : World) (l : List (List UInt8)) (e : Ending) (w' : World) : Prop :=
  ∃ v, e = .returned (.tuple #[v, .int .i64 (wrapE l : Int)]) ∧ Own w' 5 1 v (wrapV l).length (bs (wrapV l)) ∧ Fr No w w' ∧ Newer w.heap.size none v.ownBlock

theorem RetWrap.bad {w : World} {l : List (List UInt8)} {w' : World} (h : ¬ AllOk l) (hf : Fr No w w') : RetWrap w l (.returned (.tuple #[.slice none 0 0, .int .i64 1])) w' := by
  refine ⟨.slice none 0 0, by rw [show wrapE l = 1 from if_neg h]; rfl, ?_, hf, .inl rfl⟩
  rw [show wrapV l = [] from if_neg h]
  exact Own.nil _ _ _
theorem tab_one (k : Nat) : (tabRow k).all (·.oneCell') = true := by
  rw [Array.all_eq_true]
  intro i hi
  have := tabRow_get k i
  rw [Array.getElem?_eq_getElem hi] at this
  rw [tabRow_size] at hi
  rw [if_pos hi] at this
  injection this with this
  rw [this]
  split <;> rfl
theorem tab_store (w : World) : (storeCells ⟨w.heap.size, 0, none⟩ (tabRow 16).toList).run Try.prog (w.alloc (.cells (tabRow 0) 86)) = .ok () (w.alloc (.cells (tabRow 16) 86)) :=
  run_storeCells_new w _ (tabRow 0) (tabRow 16) (by kernel_rfl) (by rw [tabRow_size, tabRow_size]) (tab_one 16)
theorem tab_cells {w : World} {g : Nat} {t : TypeId} (h : Blk w g t (tabRow 16)) : w.cell? ⟨g, 0, none⟩ = some (tv 0) ∧ w.cell? ⟨g, 1, none⟩ = some (tv 1) ∧ w.cell? ⟨g, 2, none⟩ = some (tv 2) ∧ w.cell? ⟨g, 3, none⟩ = some (tv 3) ∧ w.cell? ⟨g, 4, none⟩ = some (tv 4) ∧ w.cell? ⟨g, 5, none⟩ = some (tv 5) ∧ w.cell? ⟨g, 6, none⟩ = some (tv 6) ∧ w.cell? ⟨g, 7, none⟩ = some (tv 7) ∧ w.cell? ⟨g, 8, none⟩ = some (tv 8) ∧ w.cell? ⟨g, 9, none⟩ = some (tv 9) ∧ w.cell? ⟨g, 10, none⟩ = some (tv 10) ∧ w.cell? ⟨g, 11, none⟩ = some (tv 11) ∧ w.cell? ⟨g, 12, none⟩ = some (tv 12) ∧ w.cell? ⟨g, 13, none⟩ = some (tv 13) ∧ w.cell? ⟨g, 14, none⟩ = some (tv 14) ∧ w.cell? ⟨g, 15, none⟩ = some (tv 15) := by
  rw [tabRow16] at h
  exact ⟨h.cell 0, h.cell 1, h.cell 2, h.cell 3, h.cell 4, h.cell 5, h.cell 6, h.cell 7, h.cell 8, h.cell 9, h.cell 10, h.cell 11, h.cell 12, h.cell 13, h.cell 14, h.cell 15⟩

/-- the six bytes ahead of the data -/
def head6 (d : List UInt8) : List UInt8 := le2 d.length ++ le4 (ones ^^^ crc ones d)
theorem head6_length (d : List UInt8) : (head6 d).length = 6 := rfl
theorem frm_head (d : List UInt8) : frm d = head6 d ++ d := by simp [frm, head6]
theorem head6_cells (d : List UInt8) (hd : d.length ≤ 4096) : #[Value.int .u8 ((d.length : Int) % 256), .int .u8 ((d.length : Int) / 256), .int .u8 ((sumF d : Int) % 256), .int .u8 ((sumF d : Int) / 256 % 256), .int .u8 ((sumF d : Int) / 65536 % 256), .int .u8 ((sumF d : Int) / 16777216 % 256)].toList = bs (head6 d) := by
  have h : sumF d = (ones ^^^ crc ones d).toNat := rfl
  have hs := (ones ^^^ crc ones d).isLt
  rw [← h] at hs
  simp only [bs, head6, le2, le4, ← h, List.map_cons, List.map_nil, List.cons_append, List.nil_append, u8_of, List.cons.injEq, Value.int.injEq, true_and, and_true]
  refine ⟨?_, ?_, ?_, ?_, ?_, ?_⟩ <;> omega

theorem wrapF_le (l : List (List UInt8)) (k : Nat) (h : AllOk l) (hk : l.length ≤ k) : (wrapF l).length ≤ k * 4102 := by
  induction l generalizing k with
  | nil => simp [wrapF]
  | cons d l ih =>
    obtain ⟨k, rfl⟩ : ∃ k', k = k' + 1 := ⟨k - 1, by simp at hk; omega⟩
    have h1 := (h d List.mem_cons_self).2
    have h2 := ih k (fun x hx => h x (List.mem_cons_of_mem _ hx)) (by simp at hk; omega)
    rw [wrapF_cons, List.length_append, frm_length]
    omega

def WrapRel (w : World) (l : List (List UInt8)) (g : Nat) (iv av : Value) (wr : World) : Prop :=
  ∃ k : Nat, k ≤ l.length ∧ iv = .int .i64 k ∧ AllOk (l.take k) ∧ Own wr 5 1 av (wrapF (l.take k)).length (bs (wrapF (l.take k))) ∧ Fr No w wr ∧ Newer w.heap.size none av.ownBlock ∧ Blk wr g 86 (tabRow 16)

set_option maxRecDepth 100000 in
set_option maxHeartbeats 400000 in
theorem wrap_any (A : Option Addr) (c : Nat) (l : List (List UInt8)) (w : World) (hr : RdL w A l) (hl : l.length ≤ 1000000) :
    Calls Try.prog 34 #[.slice A l.length c] w (RetWrap w l) := by
  have HR := Lib.hid hr
  clear hr
  go_enter Try.func34, Try.ntmps34
  go_wp2_with fail
  refine (partials_any _).mono ?_
  rintro e w1 ⟨rfl, hb1⟩
  have hf1 : Fr No w w1 := Fr.of_below hb1 _
  have hs1 := hb1.size
  have hts := tab_store w1
  rw [tabRow0] at hts
  have hbk : Blk (w1.alloc (.cells (tabRow 16) 86)) w1.heap.size 86 (tabRow 16) := Blk.new _ _ _
  clear hb1
  go_wp2
  have hstart : WrapRel w l w1.heap.size (.int .i64 0) (.slice none 0 0) (w1.alloc (.cells (tabRow 16) 86)) :=
    ⟨0, Nat.zero_le _, rfl, (fun d hd => by simp at hd), Own.nil _ _ _, hf1.alloc _, .inl rfl, hbk⟩
  generalize w1.heap.size = g at *
  clear hbk hts hf1
  generalize w1.alloc _ = w2 at *
  go_loopw [12, 5] (fun i a wr => WrapRel w l g i a wr) (fun i _ _ => l.length - (intOf i).toNat)
  case atStart => exact hstart
  case round =>
    clear hstart
    obtain ⟨k, hk, rfl, hok, ho, hf, hn, hb⟩ := hrel
    by_cases hlt : k < l.length
    · have hRl := HR.out.below hf.belowNo
      obtain ⟨ad, Aj, cj, rfl, hcell, hrd, hlc, hcm⟩ := HR.out.at_ hlt
      replace hcell := (hf.belowNo.cell (p := ad.add k) (World.block_lt_of_cell? w _ hcell)).trans hcell
      have htk : l.take (k + 1) = l.take k ++ [l[k]] := List.take_succ_eq_append_getElem hlt
      have HT := Lib.hid htk
      have HMEM : Hid (l[k] ∈ l) := List.getElem_mem hlt
      generalize l[k] = d at *
      by_cases hd : OkLen d
      · obtain ⟨d1, d2⟩ := hd
        obtain ⟨q0, q1, q2, q3, q4, q5, q6, q7, q8, q9, q10, q11, q12, q13, q14, q15⟩ := tab_cells hb
        have HRD := Lib.hid hrd
        clear htk hrd hRl
        have d1' : ¬ (d.length : Int) < 1 := by omega
        have d2' : ¬ (4096 : Int) < d.length := by omega
        go_wp2_with fail
        rw [← tabRow16]
        clear q0 q1 q2 q3 q4 q5 q6 q7 q8 q9 q10 q11 q12 q13 q14 q15
        refine (sum_any _ Aj cj d _ (HRD.out.below hf.belowNo fun _ h => h) (by omega)).mono ?_
        rintro e w3 ⟨rfl, hb3⟩
        have hf3 : Fr No w w3 := hf.trans (Fr.of_below hb3 _)
        have ho3 := (ho.below hb3 fun i hi => ho.lt i hi).alloc (.cells #[Value.int .u8 ((d.length : Int) % 256), .int .u8 ((d.length : Int) / 256), .int .u8 ((sumF d : Int) % 256), .int .u8 ((sumF d : Int) / 256 % 256), .int .u8 ((sumF d : Int) / 65536 % 256), .int .u8 ((sumF d : Int) / 16777216 % 256)] 5)
        have hf4 := hf3.alloc (.cells #[Value.int .u8 ((d.length : Int) % 256), .int .u8 ((d.length : Int) / 256), .int .u8 ((sumF d : Int) % 256), .int .u8 ((sumF d : Int) / 256 % 256), .int .u8 ((sumF d : Int) / 65536 % 256), .int .u8 ((sumF d : Int) / 16777216 % 256)] 5)
        have hsrc : Src Try.prog (w3.alloc (.cells #[Value.int .u8 ((d.length : Int) % 256), .int .u8 ((d.length : Int) / 256), .int .u8 ((sumF d : Int) % 256), .int .u8 ((sumF d : Int) / 256 % 256), .int .u8 ((sumF d : Int) / 65536 % 256), .int .u8 ((sumF d : Int) / 16777216 % 256)] 5)) 1 25 (.slice (some ⟨w3.heap.size, 0, none⟩) 6 6) 6 (bs (head6 d)) := by
          rw [← head6_cells d d2]
          exact Src.of_new _ (heap_alloc_new _ _) Try.underlying25 rfl (by simp [Value.oneCell'])
        have hb5 : Blk (w3.alloc (.cells #[Value.int .u8 ((d.length : Int) % 256), .int .u8 ((d.length : Int) / 256), .int .u8 ((sumF d : Int) % 256), .int .u8 ((sumF d : Int) / 256 % 256), .int .u8 ((sumF d : Int) / 65536 % 256), .int .u8 ((sumF d : Int) / 16777216 % 256)] 5)) g 86 (tabRow 16) := (hb.below hb3 hb.lt).alloc _
        have hs4 := hf4.size
        clear hb3 hf3 ho hb hf
        have hcat : bs (wrapF (l.take k)) ++ bs (head6 d) ++ bs d = bs (wrapF (l.take (k + 1))) := by
          rw [HT.out, ← bs_append, ← bs_append]
          simp [wrapF, frm_head]
        have hlen : (wrapF (l.take k)).length + 6 + d.length = (wrapF (l.take (k + 1))).length := by
          have := congrArg List.length hcat
          simp only [List.length_append, bs_length, head6_length] at this
          exact this
        have hwl : (wrapF (l.take k)).length ≤ k * 4102 := wrapF_le _ k hok (by simp; omega)
        have HCAT := Lib.hid hcat
        have HLEN := Lib.hid hlen
        have HOK : Hid (AllOk (l.take (k + 1))) := by
          show AllOk _
          rw [HT.out]
          intro x hx
          rcases List.mem_append.1 hx with h | h
          · exact hok x h
          · simp at h
            subst h
            exact ⟨d1, d2⟩
        have hbig : (wrapF (l.take k)).length + 6 + d.length ≤ 140737488355328 := by
          have : k * 4102 ≤ 1000000 * 4102 := Nat.mul_le_mul_right _ (by omega)
          omega
        clear hcat hlen hwl
        go_upto_region 10 with (at_builtin; refine wpList_app _ rfl (.tmp 27) (.tmp 46) 25 25 rfl elB ho3 rfl hsrc rfl (by simp only [maxLen]; omega) (by omega) ?_; intro v5 w5 ho5 hf5 hn5)
        have hn5' : Newer w.heap.size none v5.ownBlock := hn.trans (Newer.of hn5) hs4
        have hf6 : Fr No w w5 := fr_no hf4 hn hf5
        have hb6 : Blk w5 g 86 (tabRow 16) := hb5.fr hf5 (fun h => (ho3.ne_ hb5 (by decide)) h)
        have hsrc5 : Src Try.prog w5 1 25 (.slice Aj d.length cj) d.length (bs d) := Src.of_rd (HRD.out.below hf6.belowNo fun _ h => h) (bs_one d) Try.underlying25
        have hs6 := hf6.size
        clear hn5 hn hf5 hf4 hb5 hsrc ho3 hs4
        go_wp2_with (at_builtin; refine wpList_app _ rfl (.tmp 48) (.tmp 49) 25 25 rfl elB ho5 rfl hsrc5 rfl (by simp only [maxLen]; omega) (by omega) ?_; intro v7 w7 ho7 hf7 hn7)
        have hend : WrapRel w l g (.int .i64 ((k : Int) + 1)) v7 w7 := by
          refine ⟨k + 1, by omega, by go_num, HOK.out, ?_, fr_no hf6 hn5' hf7, hn5'.trans (Newer.of hn7) hs6, hb6.fr hf7 (fun h => (ho5.ne_ hb6 (by decide)) h)⟩
          rw [HCAT.out, HLEN.out] at ho7
          exact ho7
        go_roundw
        case rel => exact hend
        case measure => simp [intOf]; omega
      · have HND : Hid (¬ AllOk l) := fun h => hd (h d HMEM.out)
        have hf' := hf
        clear hb htk hrd ho hf
        by_cases d1 : d.length < 1
        · have d1' : (d.length : Int) < 1 := by omega
          go_wp2
          go_ret2
          exact RetWrap.bad HND.out hf'
        · have d1' : ¬ (d.length : Int) < 1 := by omega
          have d2' : (4096 : Int) < d.length := by unfold OkLen at hd; omega
          go_wp2
          go_ret2
          exact RetWrap.bad HND.out hf'
    · obtain rfl : k = l.length := by omega
      rw [List.take_length] at hok ho
      have HO := Lib.hid hok
      clear hok hb
      go_wp2
      go_ret2
      refine ⟨u5, ?_, ?_, hf, hn⟩
      · rw [show wrapE l = 0 from if_pos HO.out]; rfl
      · rw [show wrapV l = wrapF l from if_pos HO.out]; exact ho
end Go.Proofs.Ytjfbpnhkdlbinaa
