/- Contracts of package pack: the reader. -/
import Derived.Test.YtlcbbkookjmnkaaPack
set_option linter.unusedSimpArgs false
set_option linter.unusedVariables false
namespace Go.Proofs.Ytlcbbkookjmnkaa
open Go.RowKit Go.My

/-- a reader at p, whose bytes l lie in block q; e: its error -/
def Rdr (w : World) (p q : Nat) (l : List UInt8) (e : Nat) : Prop :=
  ∃ A c, Blk w p 98 #[.slice A l.length c, .int .i64 (e : Int)] ∧ Rd w (At1 q) 1 A l.length (bs l) ∧ l.length ≤ c ∧ c ≤ 140737488355328 ∧ p ≠ q ∧ q < w.heap.size

theorem Rdr.fr {w w' : World} {p q : Nat} {l : List UInt8} {e : Nat} {S : Nat → Prop} (h : Rdr w p q l e) (hf : Fr S w w') (hp : ¬ S p) (hq : ¬ S q) : Rdr w' p q l e := by
  obtain ⟨A, c, hb, hr, hl, hc, hne⟩ := h
  exact ⟨A, c, hb.fr hf hp, hr.fr (by omega) hf (fun k hk _ hs => hq (by rw [At1] at hk; rw [← hk]; exact hs)), hl, hc, hne.1, Nat.lt_of_lt_of_le hne.2 hf.size⟩
theorem Rdr.lt {w : World} {p q : Nat} {l : List UInt8} {e : Nat} (h : Rdr w p q l e) : p < w.heap.size := by
  obtain ⟨A, c, hb, _⟩ := h
  exact hb.lt

theorem state_nil (w : World) : Calls Try.prog 81 #[.pointer none] w fun e w' => e = .returned (.int .i64 1) ∧ w = w' := by
  go_enter Try.func81, Try.ntmps81
  go_wp2
  go_ret
  exact ⟨rfl, rfl⟩
theorem state_at (p q : Nat) (l : List UInt8) (e0 : Nat) (w : World) (h : Rdr w p q l e0) : Calls Try.prog 81 #[.pointer (some ⟨p, 0, none⟩)] w fun e w' => e = .returned (.int .i64 (e0 : Int)) ∧ w = w' := by
  obtain ⟨A, c, hb, hr, hl, hc, hne⟩ := h
  have c1 := hb.cell 1
  simp at c1
  clear hb hr hl hc hne
  go_enter Try.func81, Try.ntmps81
  go_wp2
  go_ret
  exact ⟨rfl, rfl⟩

def Ret1 (R : World → Prop) (v : Value) (e : Ending) (w' : World) : Prop := e = .returned v ∧ R w'
/-- handed back: v; the reader then holds l -/
def RetR (w : World) (p q : Nat) (v : Value) (l : List UInt8) (e0 : Nat) (e : Ending) (w' : World) : Prop := e = .returned v ∧ Rdr w' p q l e0 ∧ Fr (At1 p) w w'

theorem fail_at (p q : Nat) (l : List UInt8) (e0 k : Nat) (w : World) (h : Rdr w p q l e0) :
    Calls Try.prog 80 #[.pointer (some ⟨p, 0, none⟩), .int .i64 (k : Int)] w (RetR w p q (.int .i64 (k : Int)) [] k) := by
  obtain ⟨A, c, hb, hr, hl, hc, hne⟩ := h
  have c0 := hb.cell 0
  have c1 := hb.cell 1
  have f0 := hb.frozen 0
  have f1 := hb.frozen 1
  simp at c0 c1
  go_enter Try.func80, Try.ntmps80
  go_wp2
  go_ret
  refine ⟨rfl, ⟨none, 0, (hb.set_ 0 _).set_ 1 _, Rd.none_, Nat.le_refl _, by omega, hne.1, by simpa [World.setCell] using hne.2⟩, ?_⟩
  exact (fr_set _ _ _ _).trans (fr_set _ _ _ _)

theorem done_nil (w : World) : Calls Try.prog 53 #[.pointer none] w fun e w' => e = .returned (.int .i64 1) ∧ w = w' := by
  go_enter Try.func53, Try.ntmps53
  go_wp2_with (go_at_call 81; refine (state_nil _).mono ?_; rintro e w' ⟨rfl, rfl⟩)
  go_ret
  exact ⟨rfl, rfl⟩
/-- what Done tells -/
def doneE (l : List UInt8) (e : Nat) : Nat := if e = 0 then (if l = [] then 0 else 3) else e
theorem done_at (p q : Nat) (l : List UInt8) (e0 : Nat) (w : World) (h : Rdr w p q l e0) (he : e0 < 5) :
    Calls Try.prog 53 #[.pointer (some ⟨p, 0, none⟩)] w (RetR w p q (.int .i64 (doneE l e0 : Int)) (if e0 = 0 then [] else l) (doneE l e0)) := by
  have h' := h
  have hrd := h
  obtain ⟨A, c, hb, hr, hl, hc, hne⟩ := h'
  have c1 := hb.cell 0
  simp at c1
  clear hb hr hl hc hne
  by_cases h0 : e0 = 0
  · have hz : ((e0 : Int) != 0) = false := by rw [bne_eq_false_iff_eq]; omega
    have H0 := Lib.hid h0
    clear h0
    by_cases hl : l = []
    · have hl0 : ¬ (0 : Int) < l.length := by subst hl; simp
      have HL := Lib.hid hl
      clear hl
      go_enter Try.func53, Try.ntmps53
      go_wp2_with (go_at_call 81; refine (state_at p q l e0 _ h).mono ?_; rintro e w' ⟨rfl, rfl⟩)
      go_ret
      have := H0.out
      have := HL.out
      subst e0 l
      exact ⟨rfl, h, Fr.refl _ _⟩
    · have hl0 : (0 : Int) < l.length := by have := List.length_pos_iff.2 hl; omega
      have HL := Lib.hid hl
      clear hl
      go_enter Try.func53, Try.ntmps53
      go_wp2_with (first | (go_at_call 81; refine (state_at p q l e0 _ h).mono ?_; rintro e w' ⟨rfl, rfl⟩) | (go_at_call 80; refine (fail_at p q l e0 3 _ h).mono ?_; rintro e w' ⟨rfl, hr1, hf1⟩))
      go_ret
      have h0 := H0.out
      have hl := HL.out
      subst e0
      simp only [doneE, if_true, if_neg hl]
      exact ⟨rfl, hr1, hf1⟩
  · have hz : ((e0 : Int) != 0) = true := by rw [bne_iff_ne]; omega
    have H0 := Lib.hid h0
    clear h0
    go_enter Try.func53, Try.ntmps53
    go_wp2_with (go_at_call 81; refine (state_at p q l e0 _ h).mono ?_; rintro e w' ⟨rfl, rfl⟩)
    go_ret
    have hn0 := H0.out
    simp only [doneE, if_neg hn0]
    exact ⟨rfl, hrd, Fr.refl _ _⟩

theorem and_one (m : Nat) (h : m < 18446744073709551616) : bits .and .u64 (m : Int) 1 = ((m % 2 : Nat) : Int) := by
  have e : bits .and .u64 (m : Int) ((1 : Nat) : Int) = ((m &&& 1 : Nat) : Int) := u64_and_nat m 1 h (by omega)
  rw [Nat.and_one_is_mod] at e
  exact e
theorem xor_zero_i64 (x : Int) (h1 : -9223372036854775808 ≤ x) (h2 : x ≤ 9223372036854775807) : bits .xor .i64 x 0 = x := by
  show IntKind.i64.wrap ((BitVec.ofInt 64 x ^^^ BitVec.ofInt 64 0).toNat : Int) = _
  have e : BitVec.ofInt 64 0 = 0#64 := rfl
  rw [e, BitVec.xor_zero, BitVec.toNat_ofInt, IntKind.wrap_i64]
  omega
theorem xor_ones_i64 (x : Int) (h1 : -9223372036854775808 ≤ x) (h2 : x ≤ 9223372036854775807) : bits .xor .i64 x (-1) = -x - 1 := by
  show IntKind.i64.wrap ((BitVec.ofInt 64 x ^^^ BitVec.ofInt 64 (-1)).toNat : Int) = _
  have e : BitVec.ofInt 64 (-1) = BitVec.allOnes 64 := by decide
  rw [e, BitVec.xor_allOnes, BitVec.toNat_not, BitVec.toNat_ofInt, IntKind.wrap_i64]
  omega
theorem zag_eq (m : Nat) (h : m < 18446744073709551616) : bits .xor .i64 (wrap64 ((m : Int) / 2)) (wrap64 (-wrap64 (bits .and .u64 (m : Int) 1))) = zag m := by
  rw [and_one m h]
  have e1 : wrap64 ((m : Int) / 2) = (m : Int) / 2 := IntWalk.wrap64_in _ ⟨by omega, by omega⟩
  have e2 : wrap64 ((m % 2 : Nat) : Int) = ((m % 2 : Nat) : Int) := IntWalk.wrap64_in _ ⟨by omega, by omega⟩
  have e3 : wrap64 (-((m % 2 : Nat) : Int)) = -((m % 2 : Nat) : Int) := IntWalk.wrap64_in _ ⟨by omega, by omega⟩
  rw [e1, e2, e3]
  unfold zag
  by_cases hm : m % 2 = 0
  · rw [if_pos hm, hm]
    have := xor_zero_i64 ((m : Int) / 2) (by omega) (by omega)
    simpa using this
  · rw [if_neg hm]
    have e : m % 2 = 1 := by omega
    rw [e]
    have := xor_ones_i64 ((m : Int) / 2) (by omega) (by omega)
    rw [show (-((1 : Nat) : Int)) = -1 from rfl, this]
    omega

theorem rdr_cut {w : World} {p q : Nat} {l : List UInt8} {e : Nat} {A : Option Addr} {c n : Nat} {X : Option Addr} {L C : Nat} (hb : Blk w p 98 #[.slice A l.length c, .int .i64 (e : Int)]) (hr : Rd w (At1 q) 1 A l.length (bs l))
    (hl : l.length ≤ c) (hc : c ≤ 140737488355328) (hne : p ≠ q ∧ q < w.heap.size) (hn : n ≤ l.length) (hX : X = if c = n then A else A.map (·.add n)) (hL : L = l.length - n) (hC : C = c - n) :
    Rdr (w.setCell ⟨p, 0, none⟩ (.slice X L C)) p q (l.drop n) e := by
  have hcut := hr.cut (k := n) (cap := c) hn hl
  have e1 : l.length - n = (l.drop n).length := by simp
  rw [Nat.mul_one, ← bs_drop, e1] at hcut
  subst hX hL hC
  rw [e1]
  exact ⟨_, _, hb.set_ 0 _, hcut.fr (by omega) (fr_set _ _ _ _) (fun k hk _ hs => hne.1 (by rw [At1] at hk hs; omega)), by rw [← e1]; omega, by omega, hne.1, by simpa [World.setCell] using hne.2⟩

/-- what Num tells, and what it leaves -/
def rnum (l : List UInt8) (e : Nat) : Int × Nat × List UInt8 :=
  if e ≠ 0 then (0, e, l) else if (dec l).2.2 ≠ 0 then (0, (dec l).2.2, []) else (zag (dec l).1, 0, l.drop (dec l).2.1)
/-- a number and an error -/
def two (a : Int) (e : Nat) : Value := .tuple #[.int .i64 a, .int .i64 (e : Int)]

theorem num_nil (w : World) : Calls Try.prog 51 #[.pointer none] w fun e w' => e = .returned (two 0 1) ∧ w = w' := by
  go_enter Try.func51, Try.ntmps51
  go_wp2_with (go_at_call 81; refine (state_nil _).mono ?_; rintro e w' ⟨rfl, rfl⟩)
  go_ret2
  exact ⟨rfl, rfl⟩

set_option maxHeartbeats 400000 in
theorem rnum_at (p q : Nat) (l : List UInt8) (e0 : Nat) (w : World) (h : Rdr w p q l e0) (he : e0 < 5) :
    Calls Try.prog 51 #[.pointer (some ⟨p, 0, none⟩)] w (RetR w p q (two (rnum l e0).1 (rnum l e0).2.1) (rnum l e0).2.2 (rnum l e0).2.1) := by
  have h' := h
  obtain ⟨A, c, hb, hr, hl, hc, hne⟩ := h'
  by_cases h0 : e0 = 0
  · have hz : ((e0 : Int) != 0) = false := by rw [bne_eq_false_iff_eq]; omega
    have c0 := hb.cell 0
    simp at c0
    have f0 := hb.frozen 0
    have hfst := first_any (At1 q) A c l w hr (by omega)
    have HF := Lib.hid hfst
    have H0 := Lib.hid h0
    have hdl := dec_le l
    have hdt := dec_lt l
    clear h0 hfst
    generalize hd : dec l = d at HF hdl hdt
    by_cases hd0 : d.2.2 = 0
    · have hz2 : ((d.2.2 : Int) != 0) = false := by rw [bne_eq_false_iff_eq]; omega
      have HD0 := Lib.hid hd0
      have HD := Lib.hid hd
      have HT := Lib.hid hdt
      clear hd0 hd hdt
      obtain ⟨m, n, k⟩ := d
      simp only at HF hdl HT hz2 HD0
      have hlc : l.length ≤ 9223372036854775807 := by omega
      have hzag := zag_eq m HT.out
      have HL := Lib.hid hl
      have HC := Lib.hid hc
      clear hl hc
      go_enter Try.func51, Try.ntmps51
      go_wp2_with (first | (go_at_call 81; refine (state_at p q l e0 _ h).mono ?_; rintro e w' ⟨rfl, rfl⟩) | (go_at_call 82; refine HF.out.mono ?_; rintro e w' ⟨rfl, rfl⟩))
      all_goals
        go_ret2
        have h0 := H0.out
        have hd := HD.out
        have hk := HD0.out
        subst e0
        subst hk
        have hcut := hr.cut (k := n) (cap := c) hdl HL.out
        have hl := HL.out
        have hc := HC.out
        have e : l.length - n = (l.drop n).length := by simp
        simp only [rnum, ne_eq, not_true_eq_false, if_false, hd]
        rw [Nat.mul_one, ← bs_drop, e] at hcut
        have hfin : ∀ X L C v, X = (if c = n then A else A.map (·.add n)) → L = (l.drop n).length → C = c - n → v = two (zag m) 0 →
            RetR w p q (two (zag m) 0) (l.drop n) 0 (.returned v) (w.setCell ⟨p, 0, none⟩ (.slice X L C)) := by
          rintro X L C v rfl rfl rfl rfl
          exact ⟨rfl, ⟨_, _, hb.set_ 0 _, hcut.fr (by omega) (fr_set _ _ _ _) (fun k hk _ hs => hne.1 (by rw [At1] at hk hs; omega)), by rw [← e]; omega, by omega, hne.1, by simpa [World.setCell] using hne.2⟩, fr_set _ _ _ _⟩
        first
          | exact hfin _ _ _ _ (by rw [if_pos (by assumption)]) e (by omega) rfl
          | exact hfin _ _ _ _ (by rw [if_neg (by assumption)]) e (by omega) rfl
    · have hz2 : ((d.2.2 : Int) != 0) = true := by rw [bne_iff_ne]; omega
      have HD0 := Lib.hid hd0
      have HD := Lib.hid hd
      clear hd0 hd
      go_enter Try.func51, Try.ntmps51
      go_wp2_with (first | (go_at_call 81; refine (state_at p q l e0 _ h).mono ?_; rintro e w' ⟨rfl, rfl⟩) | (go_at_call 82; refine HF.out.mono ?_; rintro e w' ⟨rfl, rfl⟩) | (go_at_call 80; refine (fail_at p q l e0 _ _ h).mono ?_; rintro e w' ⟨rfl, hr1, hf1⟩))
      go_ret2
      have h0 := H0.out
      have hd := HD.out
      have hd0 := HD0.out
      simp only [rnum, h0, hd, ne_eq, not_true_eq_false, if_false, hd0, not_false_eq_true, if_true]
      exact ⟨rfl, hr1, hf1⟩
  · have hz : ((e0 : Int) != 0) = true := by rw [bne_iff_ne]; omega
    have H0 := Lib.hid h0
    clear h0 hb hr hl hc hne
    go_enter Try.func51, Try.ntmps51
    go_wp2_with (go_at_call 81; refine (state_at p q l e0 _ h).mono ?_; rintro e w' ⟨rfl, rfl⟩)
    go_ret2
    have hn0 := H0.out
    simp only [rnum, ne_eq, hn0, not_false_eq_true, if_true]
    exact ⟨rfl, h, Fr.refl _ _⟩

set_option maxRecDepth 100000 in
theorem u8zero : ∀ i, Try.prog.info? 5 = some i → i.zero = some (.int .u8 0) := by
  have h : (Try.prog.info? 5).map (fun i => (i.zero, i.size, i.bytes)) = some (some (.int .u8 0), 1, 1) := by kernel_rfl
  obtain ⟨i, hi, hz, _⟩ := info_parts h
  intro j hj
  rw [hi] at hj
  injection hj with hj
  rw [← hj]
  exact hz

theorem u8size : (Try.prog.info? 5).map (·.size) = some 1 := by kernel_rfl

/-- handed back: a new reader of l -/
def RetNew (w : World) (l : List UInt8) (e : Ending) (w' : World) : Prop :=
  ∃ p q, e = .returned (.pointer (some ⟨p, 0, none⟩)) ∧ Rdr w' p q l 0 ∧ Fr No w w' ∧ w.heap.size ≤ p ∧ w.heap.size ≤ q

set_option maxHeartbeats 400000 in
theorem pknew_any (F : Nat → Prop) (A : Option Addr) (c : Nat) (l : List UInt8) (w : World) (hr : Rd w F 1 A l.length (bs l)) (hsz : l.length ≤ 140737488355328) :
    Calls Try.prog 48 #[.slice A l.length c] w (RetNew w l) := by
  have hmk := fun W => run_make1 (P := Try.prog) elB u8zero rfl .i64 .i64 l.length (by omega) (by simp only [maxLen]; omega) W
  have hr1 := rd_lt hr (by omega)
  have HR := Lib.hid hr1
  have HS := Lib.hid hsz
  clear hr hr1 hsz
  go_enter Try.func48, Try.ntmps48
  go_wp2_with (refine wpList_copy_splice rfl (.tmp 7) (.tmp 8) 32 32 rfl 5 Try.underlying32 u8size _ A l.length l.length l.length c rfl rfl w.heap.size 0 (zrow l.length (.int .u8 0)) 5 ?h0 (bs l) ?h1 ?h2 ?h3 (bs_one l) w.heap.size w ?h4 (Nat.le_refl _) ?_; (case h0 => exact heap_alloc_new w _); (case h1 => (rw [bs_length]; exact (Nat.min_self _).symm)); (case h2 => (intro h0; rw [bs_length] at h0; obtain ⟨ad, hA, hb, hc⟩ := HR.out.2 h0; exact ⟨rfl, ad, hA, fun j v hv => (World.cell?_alloc_lt w _ _ (by rw [block_of_add]; exact hb)).trans (hc j v hv)⟩)); (case h3 => (rw [bs_length, zrow_length]; omega)); (case h4 => exact (Below.refl _ _).alloc (Nat.le_refl _) _); intro w2 HG hB)
  go_ret
  have hG := HG.out
  rw [splice_all _ _ (by rw [zrow_length, bs_length])] at hG
  have hq : w.heap.size < w2.heap.size := Blk.lt hG
  refine ⟨w2.heap.size, w.heap.size, rfl, ⟨some ⟨w.heap.size, 0, none⟩, l.length, Blk.new w2 _ _, ?_, Nat.le_refl _, HS.out, by omega, by simp; omega⟩, (Fr.of_below hB No).alloc _, by omega, Nat.le_refl _⟩
  refine ⟨by rw [bs_length]; simp, fun _ => ⟨_, rfl, rfl, ?_⟩⟩
  intro j u hu
  rw [add_zero, World.cell?_alloc_lt _ _ _ hq, Blk.cell hG]
  simpa using hu

theorem pknew_rd (F : Nat → Prop) (A : Option Addr) (n c : Nat) (l : List UInt8) (w : World) (hn : l.length = n) (hr : Rd w F 1 A n (bs l)) (hsz : n ≤ 140737488355328) :
    Calls Try.prog 48 #[.slice A n c] w (RetNew w l) := by
  subst hn
  exact pknew_any F A c l w hr hsz

theorem rnum_err (l : List UInt8) (e : Nat) (he : e < 5) : (rnum l e).2.1 < 5 := by
  unfold rnum
  split
  · exact he
  · split
    · exact dec_err_lt l
    · simp
theorem rnum_bd (l : List UInt8) (e : Nat) : -9223372036854775808 ≤ (rnum l e).1 ∧ (rnum l e).1 ≤ 9223372036854775807 := by
  unfold rnum
  split
  · simp
  · split
    · simp
    · exact zag_bd _ (dec_lt l)

/-- what Range tells, and what it leaves -/
def rrange (lo hi : Int) (l : List UInt8) (e : Nat) : Int × Nat × List UInt8 :=
  if (rnum l e).2.1 ≠ 0 then (0, (rnum l e).2.1, (rnum l e).2.2) else if (rnum l e).1 < lo ∨ hi < (rnum l e).1 then (0, 3, []) else rnum l e

theorem range_nil (lo hi : Int) (w : World) : Calls Try.prog 52 #[.pointer none, .int .i64 lo, .int .i64 hi] w fun e w' => e = .returned (two 0 1) ∧ w = w' := by
  go_enter Try.func52, Try.ntmps52
  go_wp2_with (go_at_call 51; refine (num_nil _).mono ?_; rintro e w' ⟨rfl, rfl⟩; unfold two)
  go_ret2
  exact ⟨rfl, rfl⟩

set_option maxHeartbeats 400000 in
theorem rrange_at (p q : Nat) (lo hi : Int) (l : List UInt8) (e0 : Nat) (w : World) (h : Rdr w p q l e0) (he : e0 < 5) :
    Calls Try.prog 52 #[.pointer (some ⟨p, 0, none⟩), .int .i64 lo, .int .i64 hi] w (RetR w p q (two (rrange lo hi l e0).1 (rrange lo hi l e0).2.1) (rrange lo hi l e0).2.2 (rrange lo hi l e0).2.1) := by
  have hn := rnum_at p q l e0 w h he
  have hlt := rnum_err l e0 he
  unfold rrange
  generalize rnum l e0 = r at hn hlt ⊢
  obtain ⟨v, k, l'⟩ := r
  simp only at hn hlt ⊢
  have HN := Lib.hid hn
  clear hn h
  by_cases hk : k = 0
  · have hz : ((k : Int) != 0) = false := by rw [bne_eq_false_iff_eq]; omega
    have HK := Lib.hid hk
    clear hk
    by_cases h1 : v < lo
    · go_enter Try.func52, Try.ntmps52
      go_wp2_with (first | (go_at_call 51; refine HN.out.mono ?_; rintro e w1 ⟨rfl, hr1, hf1⟩; unfold two) | (go_at_call 80; refine (fail_at p q _ _ 3 _ hr1).mono ?_; rintro e w2 ⟨rfl, hr2, hf2⟩))
      go_ret2
      have hk := HK.out
      subst hk
      simp only [ne_eq, not_true_eq_false, if_false, h1, true_or, if_true]
      exact ⟨rfl, hr2, hf1.trans hf2⟩
    · by_cases h2 : hi < v
      · go_enter Try.func52, Try.ntmps52
        go_wp2_with (first | (go_at_call 51; refine HN.out.mono ?_; rintro e w1 ⟨rfl, hr1, hf1⟩; unfold two) | (go_at_call 80; refine (fail_at p q _ _ 3 _ hr1).mono ?_; rintro e w2 ⟨rfl, hr2, hf2⟩))
        go_ret2
        have hk := HK.out
        subst hk
        have hc : v < lo ∨ hi < v := .inr h2
        simp only [ne_eq, not_true_eq_false, if_false, hc, if_true]
        exact ⟨rfl, hr2, hf1.trans hf2⟩
      · go_enter Try.func52, Try.ntmps52
        go_wp2_with (go_at_call 51; refine HN.out.mono ?_; rintro e w1 ⟨rfl, hr1, hf1⟩; unfold two)
        go_ret2
        have hk := HK.out
        subst hk
        have hc : ¬ (v < lo ∨ hi < v) := by omega
        simp only [ne_eq, not_true_eq_false, if_false, hc]
        exact ⟨rfl, hr1, hf1⟩
  · have hz : ((k : Int) != 0) = true := by rw [bne_iff_ne]; omega
    have HK := Lib.hid hk
    clear hk
    go_enter Try.func52, Try.ntmps52
    go_wp2_with (go_at_call 51; refine HN.out.mono ?_; rintro e w1 ⟨rfl, hr1, hf1⟩; unfold two)
    go_ret2
    have hk := HK.out
    simp only [ne_eq, hk, not_false_eq_true, if_true]
    exact ⟨rfl, hr1, hf1⟩

theorem rrange_err (lo hi : Int) (l : List UInt8) (e : Nat) (he : e < 5) : (rrange lo hi l e).2.1 < 5 := by
  have := rnum_err l e he
  unfold rrange
  split
  · exact this
  · split
    · simp
    · exact this
theorem rrange_ok (lo hi : Int) (l : List UInt8) (e : Nat) (h : (rrange lo hi l e).2.1 = 0) : rrange lo hi l e = rnum l e ∧ lo ≤ (rnum l e).1 ∧ (rnum l e).1 ≤ hi := by
  unfold rrange at h ⊢
  split at h
  · rename_i h0
    exact absurd h h0
  · split at h
    · simp at h
    · rename_i h0 h1
      rw [if_neg h0, if_neg h1]
      exact ⟨rfl, by omega, by omega⟩

/-- what Text tells, and what it leaves -/
def rtext (most : Int) (l : List UInt8) (e : Nat) : List UInt8 × Nat × List UInt8 :=
  if (rrange 0 most l e).2.1 ≠ 0 then ([], (rrange 0 most l e).2.1, (rrange 0 most l e).2.2)
  else if (rrange 0 most l e).2.2.length < (rrange 0 most l e).1 then ([], 4, [])
  else ((rrange 0 most l e).2.2.take (rrange 0 most l e).1.toNat, 0, (rrange 0 most l e).2.2.drop (rrange 0 most l e).1.toNat)

def twoS (s : List UInt8) (e : Nat) : Value := .tuple #[.string ⟨s.toArray⟩, .int .i64 (e : Int)]

theorem text_nil (most : Int) (w : World) : Calls Try.prog 50 #[.pointer none, .int .i64 most] w fun e w' => e = .returned (twoS [] 1) ∧ w = w' := by
  go_enter Try.func50, Try.ntmps50
  go_wp2_with (go_at_call 52; refine (range_nil _ _ _).mono ?_; rintro e w' ⟨rfl, rfl⟩; unfold two)
  go_ret2
  exact ⟨rfl, rfl⟩

set_option maxHeartbeats 400000 in
set_option maxRecDepth 100000 in
theorem rtext_at (p q : Nat) (most : Int) (l : List UInt8) (e0 : Nat) (w : World) (h : Rdr w p q l e0) (he : e0 < 5) :
    Calls Try.prog 50 #[.pointer (some ⟨p, 0, none⟩), .int .i64 most] w (RetR w p q (twoS (rtext most l e0).1 (rtext most l e0).2.1) (rtext most l e0).2.2 (rtext most l e0).2.1) := by
  have hn := rrange_at p q 0 most l e0 w h he
  have hlt := rrange_err 0 most l e0 he
  have hok := rrange_ok 0 most l e0
  unfold rtext
  generalize rrange 0 most l e0 = r at hn hlt hok ⊢
  obtain ⟨v, k, l'⟩ := r
  simp only at hn hlt hok ⊢
  have HN := Lib.hid hn
  clear hn h
  by_cases hk : k = 0
  · have hz : ((k : Int) != 0) = false := by rw [bne_eq_false_iff_eq]; omega
    obtain ⟨hv, hv0, hv1⟩ := hok hk
    have hvv : v = (rnum l e0).1 := by rw [← hv]
    rw [← hvv] at hv0
    have hbd := (rnum_bd l e0).2
    rw [← hvv] at hbd
    have HK := Lib.hid hk
    clear hk hok hv hv1 hvv
    by_cases h1 : l'.length < v
    · have HH := Lib.hid h1
      go_enter Try.func50, Try.ntmps50
      go_wp2_with (first | (go_at_call 52; refine HN.out.mono ?_; rintro e w1 ⟨rfl, hr1, hf1⟩; (have hr1' := hr1; obtain ⟨A, c, hb, hr, hl, hc, hne⟩ := hr1'; have c0 := hb.cell 0; simp at c0; clear hb hr hl hc hne; unfold two)) | (go_at_call 80; refine (fail_at p q _ _ 4 _ hr1).mono ?_; rintro e w2 ⟨rfl, hr2, hf2⟩))
      go_ret2
      have hk := HK.out
      subst hk
      simp only [ne_eq, not_true_eq_false, if_false, h1, if_true]
      exact ⟨rfl, hr2, hf1.trans hf2⟩
    · obtain ⟨n, rfl⟩ := Int.eq_ofNat_of_zero_le hv0
      have hnl : n ≤ l'.length := by omega
      go_enter Try.func50, Try.ntmps50
      go_wp2_with (first | (go_at_call 52; refine HN.out.mono ?_; rintro e w1 ⟨rfl, hr1, hf1⟩; (obtain ⟨A, c, hb, hr, hl, hc, hne⟩ := hr1; have c0 := hb.cell 0; have f0 := hb.frozen 0; simp at c0; have hcv := run_str_of_bytes (P := Try.prog) (c := c) 32 9 5 Try.underlying32 Try.underlying5 Try.underlying9 (show Rd w1 (At1 q) 1 A n (bs (l'.take n)) by rw [bs_take]; simpa using hr.take hnl); unfold two)))
      all_goals
        go_ret2
        have hk := HK.out
        subst hk
        refine ⟨rfl, ?_, hf1.trans (fr_set _ _ _ _)⟩
        first
          | exact rdr_cut hb hr hl hc hne hnl (by rw [if_pos (by assumption)]) rfl (by omega)
          | exact rdr_cut hb hr hl hc hne hnl (by rw [if_neg (by assumption)]) rfl (by omega)
  · have hz : ((k : Int) != 0) = true := by rw [bne_iff_ne]; omega
    have HK := Lib.hid hk
    clear hk hok
    go_enter Try.func50, Try.ntmps50
    go_wp2_with (go_at_call 52; refine HN.out.mono ?_; rintro e w1 ⟨rfl, hr1, hf1⟩; unfold two)
    go_ret2
    have hk := HK.out
    simp only [ne_eq, hk, not_false_eq_true, if_true]
    exact ⟨rfl, hr1, hf1⟩

/-- what Nums reads behind the count: k numbers -/
def rmany : Nat → List UInt8 → Nat → List Int × Nat × List UInt8
  | 0, l, e => ([], e, l)
  | k + 1, l, e => if (rnum l e).2.1 ≠ 0 then ([], (rnum l e).2.1, (rnum l e).2.2) else
      if (rmany k (rnum l e).2.2 0).2.1 ≠ 0 then ([], (rmany k (rnum l e).2.2 0).2) else ((rnum l e).1 :: (rmany k (rnum l e).2.2 0).1, (rmany k (rnum l e).2.2 0).2)
/-- what Nums tells, and what it leaves -/
def rnums (most : Int) (l : List UInt8) (e : Nat) : List Int × Nat × List UInt8 :=
  if (rrange 0 most l e).2.1 ≠ 0 then ([], (rrange 0 most l e).2.1, (rrange 0 most l e).2.2)
  else rmany (rrange 0 most l e).1.toNat (rrange 0 most l e).2.2 0

theorem rmany_err (k : Nat) : ∀ (l : List UInt8) (e : Nat), e < 5 → (rmany k l e).2.1 < 5 := by
  induction k with
  | zero => intro l e he; simpa [rmany] using he
  | succ k ih =>
    intro l e he
    have h1 := rnum_err l e he
    have h2 := ih (rnum l e).2.2 0 (by omega)
    unfold rmany
    split
    · exact h1
    · split <;> exact h2
theorem rnums_err (most : Int) (l : List UInt8) (e : Nat) (he : e < 5) : (rnums most l e).2.1 < 5 := by
  unfold rnums
  split
  · exact rrange_err 0 most l e he
  · exact rmany_err _ _ _ (by omega)
theorem rnum_len (l : List UInt8) (h : (rnum l 0).2.1 = 0) : (rnum l 0).2.2.length < l.length := by
  unfold rnum at h ⊢
  simp only [ne_eq, not_true_eq_false, if_false] at h ⊢
  split at h
  · rename_i h0
    exact absurd h h0
  · rename_i h0
    rw [if_neg h0]
    have hd : (dec l).2.2 = 0 := by simpa using h0
    obtain ⟨h1, h2, _⟩ := dec_only l (dec l).1 (dec l).2.1 (by rw [← hd])
    simp only [List.length_drop]
    omega
theorem rmany_len (k : Nat) : ∀ (l : List UInt8), (rmany k l 0).1.length ≤ l.length := by
  induction k with
  | zero => intro l; simp [rmany]
  | succ k ih =>
    intro l
    unfold rmany
    split
    · simp
    · rename_i h
      have := rnum_len l (by simpa using h)
      have := ih (rnum l 0).2.2
      split
      · simp
      · simp only [List.length_cons]
        omega
theorem rmany_i64 (k : Nat) : ∀ (l : List UInt8) (e : Nat), I64s (rmany k l e).1 := by
  induction k with
  | zero => intro l e x hx; simp [rmany] at hx
  | succ k ih =>
    intro l e
    unfold rmany
    split
    · intro x hx; simp at hx
    · split
      · intro x hx; simp at hx
      · intro x hx
        simp only [List.mem_cons] at hx
        rcases hx with rfl | hx
        · exact rnum_bd l e
        · exact ih _ _ x hx

/-- handed back: a list of the call's own, and an error; the reader then holds l -/
def RetNs (w : World) (p q : Nat) (xs : List Int) (l : List UInt8) (e0 : Nat) (e : Ending) (w' : World) : Prop :=
  ∃ v, e = .returned (.tuple #[v, .int .i64 (e0 : Int)]) ∧ Own w' 2 1 v xs.length (is_ xs) ∧ Rdr w' p q l e0 ∧ Fr (At1 p) w w' ∧ Newer w.heap.size none v.ownBlock

theorem rmany_ok (m : Nat) (l : List UInt8) (h : (rnum l 0).2.1 = 0) (xs : List Int) :
    (if (rmany (m + 1) l 0).2.1 ≠ 0 then (([], (rmany (m + 1) l 0).2) : List Int × Nat × List UInt8) else (xs ++ (rmany (m + 1) l 0).1, (rmany (m + 1) l 0).2)) =
      if (rmany m (rnum l 0).2.2 0).2.1 ≠ 0 then ([], (rmany m (rnum l 0).2.2 0).2) else ((xs ++ [(rnum l 0).1]) ++ (rmany m (rnum l 0).2.2 0).1, (rmany m (rnum l 0).2.2 0).2) := by
  have e : rmany (m + 1) l 0 = if (rmany m (rnum l 0).2.2 0).2.1 ≠ 0 then ([], (rmany m (rnum l 0).2.2 0).2) else ((rnum l 0).1 :: (rmany m (rnum l 0).2.2 0).1, (rmany m (rnum l 0).2.2 0).2) := by
    rw [rmany, if_neg (by simpa using h)]
  rw [e]
  by_cases h1 : (rmany m (rnum l 0).2.2 0).2.1 = 0
  · simp [h1]
  · simp [h1]
theorem rmany_bad (m : Nat) (l : List UInt8) (h : (rnum l 0).2.1 ≠ 0) : rmany (m + 1) l 0 = ([], (rnum l 0).2.1, (rnum l 0).2.2) := by
  rw [rmany, if_pos h]

/-- Nums' loop: k are read, n are to come -/
def NumsLoop (w : World) (p q : Nat) (N : Nat) (res : List Int × Nat × List UInt8) (v i : Value) (wr : World) : Prop :=
  ∃ (k : Nat) (xs : List Int) (l : List UInt8), k ≤ N ∧ i = .int .i64 k ∧ Own wr 2 1 v xs.length (is_ xs) ∧ Rdr wr p q l 0 ∧ Fr (At1 p) w wr ∧ Newer w.heap.size none v.ownBlock ∧ v.ownBlock ≠ some q ∧
    xs.length ≤ 17592186044416 - l.length ∧ l.length ≤ 17592186044416 ∧
    res = (if (rmany (N - k) l 0).2.1 ≠ 0 then ([], (rmany (N - k) l 0).2) else (xs ++ (rmany (N - k) l 0).1, (rmany (N - k) l 0).2))

end Go.Proofs.Ytlcbbkookjmnkaa
