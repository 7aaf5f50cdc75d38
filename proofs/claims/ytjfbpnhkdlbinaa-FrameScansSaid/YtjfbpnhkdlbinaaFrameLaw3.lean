/- The laws of package frame, as walks: FrameBits. -/
import Derived.Test.YtjfbpnhkdlbinaaFrameLaw2
namespace Go.Proofs.Ytjfbpnhkdlbinaa
open Go.RowKit Go.My
set_option linter.unusedSimpArgs false
set_option linter.unusedVariables false

theorem add_row (g i : Nat) : (⟨g, 0, none⟩ : Addr).add i = ⟨g, i, none⟩ := by unfold Addr.add; split <;> simp_all
theorem xor_bit (x : UInt8) (m : Nat) (hm : m < 8) : ∃ y : UInt8, bits .xor .u8 (x.toNat : Int) ((2 : Int) ^ m % 256) = (y.toNat : Int) ∧ y ≠ x := by
  have key : ∀ b : UInt8, b ≠ 0 → x ^^^ b ≠ x := by
    intro b hb h
    apply hb
    have := congrArg (fun z => x ^^^ z) h
    simp only [← UInt8.xor_assoc, UInt8.xor_self, UInt8.zero_xor] at this
    exact this
  have gen : ∀ b : UInt8, bits .xor .u8 (x.toNat : Int) (b.toNat : Int) = ((x ^^^ b).toNat : Int) := by
    intro b
    have hx := x.toNat_lt
    have hb := b.toNat_lt
    show IntKind.u8.wrap ((BitVec.ofInt 8 (x.toNat : Int) ^^^ BitVec.ofInt 8 (b.toNat : Int)).toNat : Int) = _
    rw [BitVec.ofInt_natCast, BitVec.ofInt_natCast, BitVec.toNat_xor, BitVec.toNat_ofNat, BitVec.toNat_ofNat, Nat.mod_eq_of_lt (by omega), Nat.mod_eq_of_lt (by omega), IntKind.wrap_u8, UInt8.toNat_xor]
    have : x.toNat ^^^ b.toNat < 2 ^ 8 := Nat.xor_lt_two_pow (by omega) (by omega)
    omega
  have hb : ((2 : Int) ^ m % 256) = ((UInt8.ofNat (2 ^ m)).toNat : Int) ∧ UInt8.ofNat (2 ^ m) ≠ 0 := by
    match m, hm with
    | 0, _ => decide
    | 1, _ => decide
    | 2, _ => decide
    | 3, _ => decide
    | 4, _ => decide
    | 5, _ => decide
    | 6, _ => decide
    | 7, _ => decide
  exact ⟨x ^^^ UInt8.ofNat (2 ^ m), by rw [hb.1, gen], key _ hb.2⟩
theorem val4_inj {a b c d a' b' c' d' : UInt8} (h : val4 a b c d = val4 a' b' c' d') : a = a' ∧ b = b' ∧ c = c' ∧ d = d' := by
  have h1 := a.toNat_lt
  have h2 := b.toNat_lt
  have h3 := c.toNat_lt
  have h4 := d.toNat_lt
  have h5 := a'.toNat_lt
  have h6 := b'.toNat_lt
  have h7 := c'.toNat_lt
  have h8 := d'.toNat_lt
  unfold val4 at h
  exact ⟨UInt8.toNat_inj.1 (by omega), UInt8.toNat_inj.1 (by omega), UInt8.toNat_inj.1 (by omega), UInt8.toNat_inj.1 (by omega)⟩

/-- one byte behind the length that is another one: found -/
theorem next_set (d : List UInt8) (i : Nat) (c : UInt8) (h : OkLen d) (h2 : 2 ≤ i) (hi : i < (frm d).length) (hc : c ≠ (frm d)[i]) : nextF ((frm d).set i c) = (3, []) := by
  obtain ⟨g1, g2⟩ := h
  have hl := frm_length d
  have hw := next_frm d [] ⟨g1, g2⟩
  rw [List.append_nil] at hw
  have hs2 : size2 (frm d)[0] (frm d)[1] = d.length := size2_le2 d.length g2
  rw [next_long (frm d) d.length (by omega) hs2 (by omega) (by omega)] at hw
  have hdrop : (frm d).drop 6 = d := rfl
  rw [hdrop, List.take_length] at hw
  by_cases hv : sumF d = val4 (frm d)[2] (frm d)[3] (frm d)[4] (frm d)[5]
  case neg => rw [if_neg hv] at hw; simp at hw
  have hl' : 6 + d.length ≤ ((frm d).set i c).length := by rw [List.length_set]; omega
  have hs2' : size2 ((frm d).set i c)[0] ((frm d).set i c)[1] = d.length := by
    rw [List.getElem_set_ne (by omega), List.getElem_set_ne (by omega)]
    exact hs2
  rw [next_long ((frm d).set i c) d.length hl' hs2' (by omega) (by omega)]
  by_cases h6 : 6 ≤ i
  · obtain ⟨j, rfl⟩ : ∃ j, i = 6 + j := ⟨i - 6, by omega⟩
    have hd : ((frm d).set (6 + j) c).drop 6 = d.set j c := by
      rw [List.drop_set, if_neg (by omega), hdrop]
      congr 1
      omega
    have hj : j < d.length := by omega
    have hdj : (frm d)[6 + j] = d[j] := by
      have : (frm d)[6 + j]? = d[j]? := by
        have h9 := congrArg (fun x => x[j]?) hdrop
        simp only [List.getElem?_drop] at h9
        exact h9
      rw [List.getElem?_eq_getElem hi, List.getElem?_eq_getElem hj] at this
      injection this
    rw [hd, List.take_of_length_le (by simp), List.getElem_set_ne (by omega), List.getElem_set_ne (by omega), List.getElem_set_ne (by omega), List.getElem_set_ne (by omega), ← hv]
    rw [if_neg]
    intro h
    have := (crc_set d ones j hj c).1 (sumF_eq.1 h)
    rw [hdj] at hc
    exact hc this
  · have hd : ((frm d).set i c).drop 6 = d := by rw [List.drop_set, if_pos (by omega), hdrop]
    rw [hd, List.take_length, if_neg]
    intro h
    rw [hv] at h
    obtain ⟨e2, e3, e4, e5⟩ := val4_inj h
    have : i = 2 ∨ i = 3 ∨ i = 4 ∨ i = 5 := by omega
    rcases this with rfl | rfl | rfl | rfl
    · rw [List.getElem_set_self] at e2; exact hc e2.symm
    · rw [List.getElem_set_self] at e3; exact hc e3.symm
    · rw [List.getElem_set_self] at e4; exact hc e4.symm
    · rw [List.getElem_set_self] at e5; exact hc e5.symm
theorem scan_set (d : List UInt8) (i : Nat) (c : UInt8) (h : OkLen d) (h2 : 2 ≤ i) (hi : i < (frm d).length) (hc : c ≠ (frm d)[i]) : scan ((frm d).set i c) = ([], 0, 3) := by
  have hn := next_set d i c h h2 hi hc
  rw [scan_step _ (by intro h0; have := congrArg List.length h0; rw [List.length_set, frm_length] at this; simp at this), hn]
  rfl

set_option maxRecDepth 100000 in
set_option maxHeartbeats 1000000 in
theorem frameBits_walk (A : Option Addr) (c : Nat) (l : List UInt8) (a : Int) (w : World) (rd : Rd w (Lt w.heap.size) 1 A l.length (bs l)) (lc : l.length ≤ c) (cm : c ≤ maxLen)
    (ha : -9223372036854775808 ≤ a ∧ a ≤ 9223372036854775807) : Calls Try.prog 9 #[.slice A l.length c, .int .i64 a] w (RetTrue w) := by
  obtain ⟨rdB, hB1⟩ := rd_take l 300 rd
  have HM := Lib.hid cm
  have hc' : c ≤ 9223372036854775807 := by simp only [maxLen] at cm; omega
  have hB2 : (l.take 300).length ≤ 300 := by omega
  have hBc : (l.take 300).length ≤ c := by omega
  generalize l.take 300 = B at *
  generalize l.length = L at *
  rw [← hB1] at rdB
  clear rd cm
  have HR := Lib.hid rdB
  clear rdB
  go_enter Try.func9, Try.ntmps9
  go_wp2_with fail
  refine (livesF _).mono ?_
  rintro e w1 ⟨rfl, hb1⟩
  have hs1 := hb1.size
  have hr1 : Rd w1 (Lt w1.heap.size) 1 A B.length (bs B) := (HR.out.below hb1 fun _ h => h).more fun k hk => Nat.lt_of_lt_of_le hk hs1
  have hcase : (300 < (L : Int) ∧ B.length = 300) ∨ (¬ 300 < (L : Int) ∧ B.length = L) := by omega
  rcases hcase with ⟨h3, e3⟩ | ⟨h3, e3⟩
  all_goals
    have hfr := frame_any A c B w1 hr1 hBc HM.out
    rw [e3] at hfr
    have HFR := Lib.hid hfr
    have HE3 := Lib.hid e3
    clear hfr e3 hB1
    go_wp2_with fail
    refine HFR.out.mono ?_
    rintro e w2 ⟨v, rfl, ho, hf, hn⟩
    have hb2 : Below w.heap.size w w2 := below_fr_no hb1 hf hs1
    have hs2 := hb2.size
    by_cases hok : OkLen B
    · have hall : AllOk [B] := fun d hd => by simp at hd; subst hd; exact hok
      have hv : wrapV [B] = frm B := by rw [show wrapV [B] = wrapF [B] from if_pos hall]; simp [wrapF]
      rw [hv, frm_length] at ho
      rw [show wrapE [B] = 0 from if_pos hall]
      have hv5 : 0 < 6 + B.length := by omega
      obtain ⟨g, c9, cur, rfl, hgb, hl9, hm9, _, _⟩ := ho.formPos hv5
      clear hall hv HFR
      obtain ⟨k0, hk0, hk0l⟩ := umod a (8 * (6 + B.length) - 16) (by omega) (by omega)
      have e16 : ((8 * (6 + B.length) - 16 : Nat) : Int) = 8 * (6 + (B.length : Int)) - 16 := by omega
      rw [e16] at hk0
      have HK : Hid (wrap64 (16 + wrap64 ((IntKind.u64.wrap a).tmod (8 * (6 + (B.length : Int)) - 16))) = ((16 + k0 : Nat) : Int)) := by
        show _ = _
        rw [hk0, IntWalk.wrap64_in _ ⟨by omega, by omega⟩]
        omega
      clear hk0 e16
      go_wp2_with fail
      rw [HK.out]
      obtain ⟨K, hKd⟩ : ∃ K, K = 16 + k0 := ⟨_, rfl⟩
      rw [← hKd]
      have hK1 : 16 ≤ K := by omega
      have hK2 : K < 8 * (6 + B.length) := by omega
      clear hKd HK hk0l
      have hi : K / 8 < 6 + B.length := by omega
      have hi' : K / 8 < (frm B).length := by rw [frm_length]; exact hi
      obtain ⟨hst, _, hfz⟩ := ho.store (K / 8) hi (.int .u8 0)
      obtain ⟨ad, u, e1, _, hx, hcell⟩ := ho.rd.at_ hi
      injection e1 with e1
      subst e1
      rw [bs_get (frm B) (K / 8) hi'] at hx
      injection hx with hx
      subst hx
      rw [add_row] at hcell
      have HX : Hid ((frm B)[K / 8] = (frm B)[K / 8]) := rfl
      generalize hfx : (frm B)[K / 8] = fx at *
      have HFX := Lib.hid hfx
      obtain ⟨y, hy, hyx⟩ := xor_bit fx (K % 8) (by omega)
      have HY := Lib.hid hy
      have HYX : Hid (y ≠ (frm B)[K / 8]) := by show _ ≠ _; rw [hfx]; exact hyx
      clear hfx hst HX hy hyx
      go_region
      rw [HY.out]
      obtain ⟨hst, _, _⟩ := ho.store (K / 8) hi (.int .u8 (y.toNat : Int))
      have hset : (bs (frm B)).set (K / 8) (.int .u8 (y.toNat : Int)) = bs ((frm B).set (K / 8) y) := by simp [bs, List.map_set]
      rw [hset] at hst
      have hls : ((frm B).set (K / 8) y).length = 6 + B.length := by rw [List.length_set, frm_length]
      have hg : w1.heap.size ≤ g := newer_none hn g rfl
      have hb3 : Below w.heap.size w (w2.setCell ⟨g, K / 8, none⟩ (.int .u8 (y.toNat : Int))).drew := (hb2.setCell (by simp; omega) _).drew
      have hsc := scan_any (some ⟨g, 0, none⟩) c9 ((frm B).set (K / 8) y) (w2.setCell ⟨g, K / 8, none⟩ (.int .u8 (y.toNat : Int))).drew (by rw [hls]; exact rd_lt (Own.rd (w := (w2.setCell ⟨g, K / 8, none⟩ (.int .u8 (y.toNat : Int))).drew) hst.drew) (by omega)) (by omega) hm9 (by omega)
      rw [hls] at hsc
      have hsp := scan_set B (K / 8) y hok (by omega) hi' HYX.out
      have HSC := Lib.hid hsc
      have HSP := Lib.hid hsp
      clear hsc hsp hset hst ho hgb hfz hcell
      go_wp2_with fail
      refine HSC.out.mono ?_
      rintro e w4 ⟨A4, c4, rfl, _, _, _, hf4⟩
      rw [HSP.out]
      go_wp2
      go_ret
      exact ⟨rfl, below_fr_no hb3 hf4 hb3.size⟩
    · have hall : ¬ AllOk [B] := fun h => hok (h B (by simp))
      have hv : wrapV [B] = [] := if_neg hall
      rw [hv] at ho
      rw [show wrapE [B] = 1 from if_neg hall]
      obtain ⟨A', c', rfl, _, _⟩ := ho.form
      clear hall hv HFR
      go_wp2
      go_ret
      exact ⟨rfl, hb2⟩
end Go.Proofs.Ytjfbpnhkdlbinaa
