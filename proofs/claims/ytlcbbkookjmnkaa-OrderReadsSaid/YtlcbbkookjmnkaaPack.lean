/- Contracts of package pack. -/
import Derived.Test.YtlcbbkookjmnkaaChecked
import Derived.Test.YtlcbbkookjmnkaaLib
import Derived.Test.YtlcbbkookjmnkaaPackMath
import Derived.Test.YtlcbbkookjmnkaaOpen
import Derived.Test.YtlcbbkookjmnkaaKit
import Derived.Handy
import Derived.Laws.BitsAllLaws
import Derived.Laws.BitsLemmas
set_option linter.unusedSimpArgs false
set_option linter.unusedVariables false
namespace Go.Proofs.Ytlcbbkookjmnkaa
open Go.RowKit Go.My

theorem wrapu (x : Int) : IntKind.u64.wrap x = x % 18446744073709551616 := IntKind.wrap_u64 x

theorem zig_eq (x : Int) (h1 : -9223372036854775808 ≤ x) (h2 : x ≤ 9223372036854775807) :
    bits .xor .u64 (IntKind.u64.wrap (IntKind.u64.wrap x * 2)) (IntKind.u64.wrap (x / 9223372036854775808)) = (zig x : Int) := by
  simp only [wrapu]
  unfold zig
  by_cases h : 0 ≤ x
  · rw [if_pos h]
    have e1 : x / 9223372036854775808 = 0 := by omega
    rw [e1]
    have e2 : (x % 18446744073709551616 * 2) % 18446744073709551616 = ((2 * x).toNat : Int) := by omega
    rw [e2, Int.zero_emod]
    show IntKind.u64.wrap ((BitVec.ofInt 64 ((2 * x).toNat : Int) ^^^ BitVec.ofInt 64 0).toNat : Int) = _
    rw [BitVec.ofInt_natCast]
    simp [IntKind.wrap_u64]
    omega
  · rw [if_neg h]
    have e1 : x / 9223372036854775808 = -1 := by omega
    rw [e1]
    have e2 : (x % 18446744073709551616 * 2) % 18446744073709551616 = ((18446744073709551616 + 2 * x).toNat : Int) := by omega
    have e3 : (-1 : Int) % 18446744073709551616 = ((18446744073709551615 : Nat) : Int) := by omega
    rw [e2, e3]
    show IntKind.u64.wrap ((BitVec.ofInt 64 ((18446744073709551616 + 2 * x).toNat : Int) ^^^ BitVec.ofInt 64 ((18446744073709551615 : Nat) : Int)).toNat : Int) = _
    have e4 : BitVec.ofInt 64 ((18446744073709551615 : Nat) : Int) = BitVec.allOnes 64 := by rw [BitVec.ofInt_natCast]; rfl
    rw [e4, BitVec.xor_allOnes, BitVec.ofInt_natCast, BitVec.toNat_not, BitVec.toNat_ofNat, wrapu]
    omega

theorem or_more (m : Nat) : bits .or .u8 ((m : Int) % 256) 128 = ((m % 128 + 128 : Nat) : Int) := by
  show IntKind.u8.wrap ((BitVec.ofInt 8 ((m : Int) % 256) ||| BitVec.ofInt 8 128).toNat : Int) = _
  have e : (m : Int) % 256 = ((m % 256 : Nat) : Int) := by omega
  rw [e, BitVec.ofInt_natCast]
  have hx : (BitVec.ofNat 8 (m % 256) ||| BitVec.ofInt 8 128).toNat = m % 128 + 128 := by
    have h : ∀ k : Fin 256, (BitVec.ofNat 8 k.val ||| BitVec.ofInt 8 128).toNat = k.val % 128 + 128 := by decide +kernel
    have := h ⟨m % 256, by omega⟩
    simp only at this
    rw [this]
    omega
  rw [hx, IntKind.wrap_u8]
  omega

/-- number's loop: what is still to come is m, f bytes more at most behind the next -/
def NumRel (w : World) (g0 : Option Nat) (n : Nat) (xs : List Value) (m0 : Nat) (v u : Value) (wr : World) : Prop :=
  ∃ (pre : List UInt8) (m f : Nat), u = .int .u64 (m : Int) ∧ m < 2 * 128 ^ f ∧ encF 9 m0 = pre ++ encF f m ∧ pre.length + f = 9 ∧
    Own wr 5 1 v (n + pre.length) (xs ++ bs pre) ∧ Fr (AtO g0) w wr ∧ Newer w.heap.size g0 v.ownBlock

theorem bs_of_nat (k : Nat) (h : k < 256) : bs [UInt8.ofNat k] = [.int .u8 (k : Int)] := by
  simp [bs]
  omega

set_option maxHeartbeats 400000 in
theorem number_any (v : Value) (n : Nat) (xs : List Value) (x : Int) (w : World) (hown : Own w 5 1 v n xs) (h1 : -9223372036854775808 ≤ x) (h2 : x ≤ 9223372036854775807) (hn : n ≤ 140737488355000) :
    Calls Try.prog 61 #[v, .int .i64 x] w (RetOwn w 5 1 v.ownBlock (n + (enc (zig x)).length) (xs ++ bs (enc (zig x)))) := by
  have hz := zig_eq x h1 h2
  have hzl := zig_lt x h1 h2
  generalize zig x = m0 at hz hzl ⊢
  have hstart : NumRel w v.ownBlock n xs m0 v (.int .u64 (m0 : Int)) w := ⟨[], m0, 9, rfl, by simpa using hzl, by simp, by simp, by simpa [bs] using hown, Fr.refl _ _, .inl rfl⟩
  have HF : Hid (enc m0 = encF 9 m0) := rfl
  generalize enc m0 = res at HF ⊢
  have HN := Lib.hid hn
  clear hown hzl hn
  go_enter Try.func61, Try.ntmps61
  go_wp2
  go_loopw [0, 5] (fun a b wr => NumRel w v.ownBlock n xs m0 a b wr) (fun _ b _ => (intOf b).toNat)
  case atStart => exact hstart
  case round =>
    clear hstart hz
    obtain ⟨pre, m, f, rfl, hm, he, hf, hown, hfr, hnew⟩ := hrel
    have ho := or_more m
    have HM := Lib.hid hm
    have HE := Lib.hid he
    have HL := Lib.hid hf
    clear hm he hf
    have HX : Hid (n + pre.length + 1 ≤ maxLen ∧ (n + pre.length + 1) * 1 ≤ 140737488355328) := by
      have := HN.out; have := HL.out; refine ⟨?_, ?_⟩ <;> (try simp only [maxLen]) <;> omega
    by_cases hlt : 128 ≤ m
    · have hb : (128 : Int) ≤ m := by omega
      go_wp2_with (at_builtin; refine wpList_app _ rfl (.tmp 15) (.tmp 19) 32 32 rfl elB (hown.alloc _) rfl (Src.of_new wr.heap.size (heap_alloc_new wr _) Try.underlying32 rfl (by simp [Value.oneCell'])) rfl HX.out.1 HX.out.2 ?_; intro v1 w1 hown1 hfr1 hnew1)
      go_roundw
      case rel =>
        have he := HE.out
        have hf := HL.out
        have hm := HM.out
        cases f with
        | zero => simp at hm; omega
        | succ f =>
          refine ⟨pre ++ [UInt8.ofNat (m % 128 + 128)], m / 128, f, by go_num, by rw [Nat.pow_succ] at hm; omega, ?_, by simp; omega, ?_, ?_, ?_⟩
          · rw [he, encF, if_neg (by omega)]
            simp
          · rw [bs_append, bs_of_nat _ (by omega)]
            simpa [Nat.add_assoc] using hown1
          · exact fr_newer (hfr.trans (Fr.alloc (Fr.refl _ _) _)) hnew hfr1
          · exact hnew.trans (Newer.of hnew1) (by have := hfr.size; simp; omega)
      case measure => simp [intOf]; omega
    · have hb : ¬ (128 : Int) ≤ m := by omega
      go_wp2_with (at_builtin; refine wpList_app _ rfl (.tmp 23) (.tmp 26) 32 32 rfl elB (hown.alloc _) rfl (Src.of_new wr.heap.size (heap_alloc_new wr _) Try.underlying32 rfl (by simp [Value.oneCell'])) rfl HX.out.1 HX.out.2 ?_; intro v1 w1 hown1 hfr1 hnew1)
      go_ret
      have he := HE.out
      have hF := HF.out
      have hl : encF f m = [UInt8.ofNat m] := by
        cases f with
        | zero => rfl
        | succ f => rw [encF, if_pos (by omega)]
      rw [he, hl] at hF
      subst hF
      refine ⟨v1, rfl, ?_, fr_newer (hfr.trans (Fr.alloc (Fr.refl _ _) _)) hnew hfr1, hnew.trans (Newer.of hnew1) (by have := hfr.size; simp; omega)⟩
      rw [bs_append, bs_of_nat _ (by omega)]
      simpa [Nat.add_assoc] using hown1

theorem num_any (x : Int) (w : World) (h1 : -9223372036854775808 ≤ x) (h2 : x ≤ 9223372036854775807) :
    Calls Try.prog 35 #[.int .i64 x] w (RetOwn w 5 1 none (enc (zig x)).length (bs (enc (zig x)))) := by
  go_enter Try.func35, Try.ntmps35
  go_wp2_with (go_at_call 61; refine (number_any _ 0 [] x _ (Own.nil _ _ _) h1 h2 (by omega)).mono ?_; rintro e w' ⟨v', rfl, hown, hfr, hnew⟩)
  go_ret
  exact ⟨v', rfl, by simpa using hown, hfr, hnew⟩

set_option maxHeartbeats 400000 in
theorem text_any (s : ByteArray) (w : World) (hs : s.size ≤ 140737488350000) :
    Calls Try.prog 34 #[.string s] w (RetOwn w 5 1 none ((enc (zig s.size)).length + s.size) (bs (enc (zig s.size) ++ s.data.toList))) := by
  have HS := Lib.hid hs
  have hl := enc_length_le (zig s.size)
  clear hs
  generalize hz : enc (zig s.size) = z at hl ⊢
  have HZ := Lib.hid hz
  clear hz
  go_enter Try.func34, Try.ntmps34
  go_wp2_with (first | (go_at_call 35; refine (num_any (s.size : Int) _ (by omega) (by have := HS.out; omega)).mono ?_; rintro e w' ⟨v', rfl, hown, hfr, hnew⟩; rw [HZ.out] at hown) | (at_builtin; refine wpList_app _ rfl (.tmp 5) (.tmp 6) 32 9 rfl elB hown rfl (Src.of_str s Try.underlying9) rfl (by have := HS.out; simp only [maxLen]; omega) (by have := HS.out; omega) ?_; intro v1 w1 hown1 hfr1 hnew1))
  go_ret
  refine ⟨v1, rfl, ?_, fr_newer hfr hnew hfr1, hnew.trans (Newer.of hnew1) hfr.size⟩
  rw [bs_append]
  exact hown1

/-- a list's bytes -/
def encs (l : List Int) : List UInt8 := l.flatMap fun x => enc (zig x)
def encNums (l : List Int) : List UInt8 := enc (zig l.length) ++ encs l
theorem encs_snoc (l : List Int) (x : Int) : encs (l ++ [x]) = encs l ++ enc (zig x) := by simp [encs]
theorem encs_length_le (l : List Int) : (encs l).length ≤ 10 * l.length := by
  induction l with
  | nil => simp [encs]
  | cons x l ih =>
    have := enc_length_le (zig x)
    have e : encs (x :: l) = enc (zig x) ++ encs l := by simp [encs]
    rw [e, List.length_append, List.length_cons]
    omega

def NumsRel (w : World) (l : List Int) (v i : Value) (wr : World) : Prop :=
  ∃ k : Nat, k ≤ l.length ∧ i = .int .i64 k ∧ Own wr 5 1 v (enc (zig l.length) ++ encs (l.take k)).length (bs (enc (zig l.length) ++ encs (l.take k))) ∧
    Fr No w wr ∧ Newer w.heap.size none v.ownBlock

theorem u64_or (a b : Nat) (ha : a < 18446744073709551616) (hb : b < 18446744073709551616) : bits .or .u64 (a : Int) (b : Int) = ((a ||| b : Nat) : Int) := by
  have hx : a ||| b < 2 ^ 64 := Nat.or_lt_two_pow (by omega) (by omega)
  show IntKind.u64.wrap ((BitVec.ofInt 64 (a : Int) ||| BitVec.ofInt 64 (b : Int)).toNat : Int) = _
  rw [BitVec.ofInt_natCast, BitVec.ofInt_natCast, BitVec.toNat_or, BitVec.toNat_ofNat, BitVec.toNat_ofNat, Nat.mod_eq_of_lt (by omega), Nat.mod_eq_of_lt (by omega), wrapu]
  omega

theorem pow128 (k : Nat) : (2 : Nat) ^ (7 * k) = 128 ^ k := by rw [Nat.pow_mul]

theorem or_shift (M c k : Nat) (hM : M < 128 ^ k) (hk : k ≤ 9) (hc : c * 128 ^ k < 18446744073709551616) :
    bits .or .u64 (M : Int) (IntKind.u64.wrap ((c : Int) * 2 ^ (7 * k))) = ((M + c * 128 ^ k : Nat) : Int) := by
  have e : ((c : Int) * 2 ^ (7 * k)) = ((c * 128 ^ k : Nat) : Int) := by
    rw [Int.natCast_mul, ← pow128]
    simp
  have e2 : ((c * 128 ^ k : Nat) : Int) % 18446744073709551616 = ((c * 128 ^ k : Nat) : Int) := by omega
  have h9 : (128 : Nat) ^ k ≤ 128 ^ 9 := Nat.pow_le_pow_right (by omega) hk
  have h9' : (128 : Nat) ^ 9 = 9223372036854775808 := by decide
  rw [e, wrapu, e2, u64_or M _ (by omega) hc]
  congr 1
  rw [← pow128] at hM ⊢
  have := Nat.shiftLeft_add_eq_or_of_lt hM c
  rw [Nat.shiftLeft_eq] at this
  rw [Nat.or_comm, ← this, Nat.add_comm]

theorem or_some (a b : Int) : ∃ n : Nat, bits .or .u64 a b = (n : Int) := by
  have h := bounds_u64 (wf_bits .or .u64 a b)
  exact ⟨(bits .or .u64 a b).toNat, by omega⟩

theorem small_pow (c k : Nat) (hc : c < 128) (hk : k < 9) : c * 128 ^ k < 18446744073709551616 := by
  have h8 : (128 : Nat) ^ k ≤ 128 ^ 8 := Nat.pow_le_pow_right (by omega) (by omega)
  have h8' : (128 : Nat) ^ 8 = 72057594037927936 := by decide
  have : c * 128 ^ k ≤ 127 * 72057594037927936 := Nat.mul_le_mul (by omega) (by omega)
  omega

theorem nine_pow (c k : Nat) (hc : c < 2) (hk : k ≤ 9) : c * 128 ^ k < 18446744073709551616 := by
  have h8 : (128 : Nat) ^ k ≤ 128 ^ 9 := Nat.pow_le_pow_right (by omega) (by omega)
  have h8' : (128 : Nat) ^ 9 = 9223372036854775808 := by decide
  have : c * 128 ^ k ≤ 1 * 9223372036854775808 := Nat.mul_le_mul (by omega) (by omega)
  omega

def FirstRel (l : List UInt8) (m i : Value) : Prop :=
  ∃ k M' M : Nat, k ≤ l.length ∧ k ≤ 10 ∧ i = .int .i64 k ∧ m = .int .u64 M' ∧ (k ≤ 9 → M' = M ∧ M < 128 ^ k) ∧ decF k M (l.drop k) = dec l

set_option maxHeartbeats 400000 in
theorem first_any (F : Nat → Prop) (A : Option Addr) (c : Nat) (l : List UInt8) (w : World) (hr : Rd w F 1 A l.length (bs l)) (hsz : l.length ≤ 140737488355328) :
    Calls Try.prog 82 #[.slice A l.length c] w fun e w' => e = .returned (.tuple #[.int .u64 ((dec l).1 : Int), .int .i64 ((dec l).2.1 : Int), .int .i64 ((dec l).2.2 : Int)]) ∧ w = w' := by
  generalize hd : dec l = d
  have HD := Lib.hid hd
  clear hd
  have HS := Lib.hid hsz
  clear hsz
  have HR := Lib.hid hr
  clear hr
  go_enter Try.func82, Try.ntmps82
  go_wp2
  go_loop [5, 11] (fun a b => FirstRel l a b) (fun _ b => l.length - (intOf b).toNat)
  case atStart => exact ⟨0, 0, 0, by omega, by omega, rfl, rfl, fun _ => ⟨rfl, by simp⟩, rfl⟩
  case round =>
    obtain ⟨k, M', M, hk, hk10, rfl, rfl, hM, hdec⟩ := hrel
    rw [HD.out] at hdec
    have HM := Lib.hid hM
    have HC := Lib.hid hdec
    clear hM hdec
    have hkl : l.length < 9223372036854775807 := by have := HS.out; omega
    by_cases hlt : k < l.length
    · obtain ⟨ad, u, rfl, _, hx, hc⟩ := HR.out.at_ hlt
      rw [bs_get l k hlt] at hx
      injection hx with hx
      subst hx
      have hdr : l.drop k = l[k] :: l.drop (k + 1) := List.drop_eq_getElem_cons hlt
      have HDR := Lib.hid hdr
      clear hdr
      have hlt8 : l[k].toNat < 256 := l[k].toNat_lt
      generalize l[k] = x at *
      by_cases h10 : k = 10
      · have he : ((k : Int) == 10) = true := by simp; omega
        have H10 := Lib.hid h10
        clear h10
        go_wp2
        go_ret3
        have := HC.out
        rw [HDR.out, H10.out] at this
        subst this
        exact ⟨rfl, rfl⟩
      · have hne : ((k : Int) == 10) = false := by simp; omega
        have hkb : (k : Int) ≤ 9 := by omega
        by_cases h128 : 128 ≤ x.toNat
        · have hb : (128 : Int) ≤ x.toNat := by omega
          have hcast : ((x.toNat : Int) - 128) = ((x.toNat - 128 : Nat) : Int) := by omega
          go_wp2
          have hd := HC.out
          rw [HDR.out, decF, if_neg (by omega), if_pos h128] at hd
          obtain ⟨hM, hMk⟩ := HM.out (by omega)
          subst hM
          by_cases h9 : k = 9
          · obtain ⟨n, hn⟩ := or_some (M' : Int) (IntKind.u64.wrap (((x.toNat - 128 : Nat) : Int) * 2 ^ (7 * k)))
            rw [hn]
            subst h9
            exact ⟨⟨10, n, 0, by omega, by omega, by go_num, rfl, fun h => absurd h (by omega), (decF_ten _ _ _).trans (hd.trans HD.out.symm)⟩, by simp [intOf]; omega⟩
          · have hp : (x.toNat - 128) * 128 ^ k < 128 ^ (k + 1) := by
              rw [pow_step]
              exact Nat.mul_lt_mul_of_pos_right (by omega) (Nat.pow_pos (by omega))
            have hp2 : M' + (x.toNat - 128) * 128 ^ k < 128 ^ (k + 1) := by
              rw [pow_step]
              have : (x.toNat - 128) * 128 ^ k ≤ 127 * 128 ^ k := Nat.mul_le_mul_right _ (by omega)
              omega
            have h9' : (128 : Nat) ^ (k + 1) ≤ 128 ^ 9 := Nat.pow_le_pow_right (by omega) (by omega)
            have h9'' : (128 : Nat) ^ 9 = 9223372036854775808 := by decide
            rw [or_shift M' _ k hMk (by omega) (by omega)]
            exact ⟨⟨k + 1, _, _, by omega, by omega, by go_num, rfl, fun _ => ⟨rfl, hp2⟩, hd.trans HD.out.symm⟩, by simp [intOf]; omega⟩
        · have hb : ¬ (128 : Int) ≤ x.toNat := by omega
          by_cases h9 : k = 9
          · have h9b : ((k : Int) == 9) = true := by simp; omega
            by_cases h1 : 1 < x.toNat
            · have h1b : (1 : Int) < x.toNat := by omega
              have H9 := Lib.hid h9; clear h9
              go_wp2
              go_ret3
              have hd := HC.out
              rw [HDR.out, decF, if_neg (by omega), if_neg h128, if_pos (.inl ⟨H9.out, h1⟩)] at hd
              subst hd
              exact ⟨rfl, rfl⟩
            · have h1b : ¬ (1 : Int) < x.toNat := by omega
              by_cases h0 : x.toNat = 0
              · have h0b : ((x.toNat : Int) == 0) = true := by simp; omega
                have h0k : (0 : Int) < k := by omega
                have H9 := Lib.hid h9; have H0 := Lib.hid h0; clear h9 h0
                go_wp2
                go_ret3
                have hd := HC.out
                rw [HDR.out, decF, if_neg (by omega), if_neg h128, if_pos (.inr ⟨H0.out, by omega⟩)] at hd
                subst hd
                exact ⟨rfl, rfl⟩
              · have h0b : ((x.toNat : Int) == 0) = false := by simp; omega
                have H9 := Lib.hid h9; have H0 := Lib.hid h0; clear h9 h0
                go_wp2
                go_ret3
                have hd := HC.out
                rw [HDR.out, decF, if_neg (by omega), if_neg h128, if_neg (by have := H9.out; have := H0.out; omega)] at hd
                subst hd
                obtain ⟨hM, hMk⟩ := HM.out (by omega)
                subst hM
                rw [or_shift M' _ k hMk (by omega) (by have := H9.out; have := H0.out; first | exact small_pow _ _ (by omega) (by omega) | exact nine_pow _ _ (by omega) (by omega))]
                exact ⟨rfl, rfl⟩
          · have h9b : ((k : Int) == 9) = false := by simp; omega
            by_cases h0 : x.toNat = 0
            · have h0b : ((x.toNat : Int) == 0) = true := by simp; omega
              by_cases h0k : 0 < k
              · have h0kb : (0 : Int) < k := by omega
                have H9 := Lib.hid h9; have H0 := Lib.hid h0; clear h9 h0
                go_wp2
                go_ret3
                have hd := HC.out
                rw [HDR.out, decF, if_neg (by omega), if_neg h128, if_pos (.inr ⟨H0.out, by omega⟩)] at hd
                subst hd
                exact ⟨rfl, rfl⟩
              · have h0kb : ¬ (0 : Int) < k := by omega
                have H9 := Lib.hid h9; have H0 := Lib.hid h0; clear h9 h0
                go_wp2
                go_ret3
                have hd := HC.out
                rw [HDR.out, decF, if_neg (by omega), if_neg h128, if_neg (by have := H9.out; have := H0.out; omega)] at hd
                subst hd
                obtain ⟨hM, hMk⟩ := HM.out (by omega)
                subst hM
                rw [or_shift M' _ k hMk (by omega) (by have := H9.out; have := H0.out; first | exact small_pow _ _ (by omega) (by omega) | exact nine_pow _ _ (by omega) (by omega))]
                exact ⟨rfl, rfl⟩
            · have h0b : ((x.toNat : Int) == 0) = false := by simp; omega
              have H9 := Lib.hid h9; have H0 := Lib.hid h0; clear h9 h0
              go_wp2
              go_ret3
              have hd := HC.out
              rw [HDR.out, decF, if_neg (by omega), if_neg h128, if_neg (by have := H9.out; have := H0.out; omega)] at hd
              subst hd
              obtain ⟨hM, hMk⟩ := HM.out (by omega)
              subst hM
              rw [or_shift M' _ k hMk (by omega) (by have := H9.out; have := H0.out; first | exact small_pow _ _ (by omega) (by omega) | exact nine_pow _ _ (by omega) (by omega))]
              exact ⟨rfl, rfl⟩
    · have : k = l.length := by omega
      subst this
      go_wp2
      go_ret3
      have := HC.out
      rw [List.drop_length] at this
      subst this
      exact ⟨rfl, rfl⟩
end Go.Proofs.Ytlcbbkookjmnkaa
