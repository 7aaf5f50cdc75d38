/- The document's own Num and Text. -/
import Derived.Test.YtnphncemghfkbaaGreatQ11
import Derived.Test.YtnphncemghfkbaaGreatRefPM
import Derived.IntWalk
set_option linter.unusedSimpArgs false
set_option linter.unusedVariables false
namespace Go.Proofs.YtnphncemghfkbaaGreat
open Go.RowKit Go.My

theorem zigU (x : Int) (h : ¬ x < 0) : x * 2 = (zig x : Int) := by
  unfold zig
  rw [if_pos (by omega)]
  omega
theorem zigL (x : Int) (h : x < 0) : (-1 - x) * 2 + 1 = (zig x : Int) := by
  unfold zig
  rw [if_neg (by omega)]
  omega
set_option maxRecDepth 100000 in
set_option maxHeartbeats 1000000 in
theorem refnum_any (x : Int) (w : World) (h1 : -9223372036854775808 ≤ x) (h2 : x ≤ 9223372036854775807) :
    Calls Tryz.prog 34 #[.int .i64 x] w (RetOwn w 5 1 none (enc (zig x)).length (bs (enc (zig x)))) := by
  have hzu := zigU x
  have hzL := zigL x
  have hzl := zig_lt x h1 h2
  generalize zig x = m0 at hzu hzL hzl ⊢
  have hstart : ∀ v : Value, v = .slice none 0 0 → NumRel w none 0 [] m0 v (.int .u64 (m0 : Int)) w := fun v hv => ⟨[], m0, 9, rfl, by simpa using hzl, by simp, by simp, by rw [hv]; exact Own.nil _ _ _, Fr.refl _ _, .inl (by rw [hv]; rfl)⟩
  have HF : Hid (enc m0 = encF 9 m0) := rfl
  generalize enc m0 = res at HF ⊢
  have hcase : (x < 0 ∧ (-1 - x) * 2 + 1 = (m0 : Int)) ∨ (¬ x < 0 ∧ x * 2 = (m0 : Int)) := by
    by_cases h : x < 0
    · exact .inl ⟨h, hzL h⟩
    · exact .inr ⟨h, hzu h⟩
  clear hzl hzu hzL
  go_enter Tryz.func34, Tryz.ntmps34
  rcases hcase with ⟨h0, hz⟩ | ⟨h0, hz⟩
  all_goals
    go_wp2
    go_loopw [4, 3] (fun a b wr => NumRel w none 0 [] m0 a b wr) (fun _ b _ => (intOf b).toNat)
    case atStart => exact hstart _ rfl
    case round =>
      clear hstart hz
      obtain ⟨pre, m, f, rfl, hm, he, hf, hown, hfr, hnew⟩ := hrel
      have hmu : (m : Int) ≤ 18446744073709551615 := by
        have h9 : (128 : Nat) ^ f ≤ 128 ^ 9 := Nat.pow_le_pow_right (by omega) (by omega)
        have h99 : (128 : Nat) ^ 9 = 9223372036854775808 := by decide
        omega
      have hmd : IntKind.u64.wrap ((m : Int) / 128) = (m : Int) / 128 := by rw [wrapu]; omega
      have HM := Lib.hid hm
      have HE := Lib.hid he
      have HL := Lib.hid hf
      clear hm he hf
      have HX : Hid (0 + pre.length + 1 ≤ maxLen ∧ (0 + pre.length + 1) * 1 ≤ 140737488355328) := by
        have := HL.out; refine ⟨?_, ?_⟩ <;> (try simp only [maxLen]) <;> omega
      by_cases hlt : 128 ≤ m
      · have hb : (128 : Int) ≤ m := by omega
        go_wp2_with (at_builtin; refine wpList_app _ rfl (.tmp 17) (.tmp 22) 25 25 rfl elB (hown.alloc _) rfl (Src.of_new wr.heap.size (heap_alloc_new wr _) Tryz.underlying25 rfl (by simp [Value.oneCell'])) rfl HX.out.1 HX.out.2 ?_; intro v1 w1 hown1 hfr1 hnew1)
        go_roundw
        case rel =>
          have he := HE.out
          have hf := HL.out
          have hm := HM.out
          cases f with
          | zero => simp at hm; omega
          | succ f =>
            refine ⟨pre ++ [UInt8.ofNat (m % 128 + 128)], m / 128, f, by go_num, by rw [Nat.pow_succ] at hm; omega, ?_, by simp; omega, ?_, ?_, ?_⟩
            · rw [he, encF, if_neg (by omega)]
              simp
            · rw [bs_append, bs_of_nat _ (by omega)]
              simpa [Nat.add_assoc] using hown1
            · exact fr_newer (hfr.trans (Fr.alloc (Fr.refl _ _) _)) hnew hfr1
            · exact hnew.trans (Newer.of hnew1) (by have := hfr.size; simp; omega)
        case measure => simp [intOf]; omega
      · have hb : ¬ (128 : Int) ≤ m := by omega
        go_wp2_with (at_builtin; refine wpList_app _ rfl (.tmp 26) (.tmp 29) 25 25 rfl elB (hown.alloc _) rfl (Src.of_new wr.heap.size (heap_alloc_new wr _) Tryz.underlying25 rfl (by simp [Value.oneCell'])) rfl HX.out.1 HX.out.2 ?_; intro v1 w1 hown1 hfr1 hnew1)
        go_ret
        have he := HE.out
        have hF := HF.out
        have hl : encF f m = [UInt8.ofNat m] := by
          cases f with
          | zero => rfl
          | succ f => rw [encF, if_pos (by omega)]
        rw [he, hl] at hF
        subst hF
        refine ⟨v1, rfl, ?_, fr_newer (hfr.trans (Fr.alloc (Fr.refl _ _) _)) hnew hfr1, hnew.trans (Newer.of hnew1) (by have := hfr.size; simp; omega)⟩
        rw [bs_append, bs_of_nat _ (by omega)]
        simpa [Nat.add_assoc] using hown1
set_option maxHeartbeats 400000 in
theorem reftext_any (s : ByteArray) (w : World) (hs : s.size ≤ 140737488350000) :
    Calls Tryz.prog 36 #[.string s] w (RetOwn w 5 1 none ((enc (zig s.size)).length + s.size) (bs (enc (zig s.size) ++ s.data.toList))) := by
  have HS := Lib.hid hs
  have hl := enc_length_le (zig s.size)
  clear hs
  generalize hz : enc (zig s.size) = z at hl ⊢
  have HZ := Lib.hid hz
  clear hz
  go_enter Tryz.func36, Tryz.ntmps36
  go_wp2_with (first | (go_at_call 34; refine (refnum_any (s.size : Int) _ (by omega) (by have := HS.out; omega)).mono ?_; rintro e w' ⟨v', rfl, hown, hfr, hnew⟩; rw [HZ.out] at hown) | (at_builtin; refine wpList_app _ rfl (.tmp 5) (.tmp 6) 25 9 rfl elB hown rfl (Src.of_str s Tryz.underlying9) rfl (by have := HS.out; unfold maxLen; omega) (by have := HS.out; omega) ?_; intro v1 w1 hown1 hfr1 hnew1))
  go_ret
  refine ⟨v1, rfl, ?_, fr_newer hfr hnew hfr1, hnew.trans (Newer.of hnew1) hfr.size⟩
  rw [bs_append]
  exact hown1
end Go.Proofs.YtnphncemghfkbaaGreat
