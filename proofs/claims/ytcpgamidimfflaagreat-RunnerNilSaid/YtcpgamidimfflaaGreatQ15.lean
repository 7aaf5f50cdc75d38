/- What holds answer: Put, Free, Take. Holds: Put. Holds: Free. Holds: Take. Holds: Copy; what the steps of a script do. The document's own chart: Free, Give, Aside. The document's own chart: Get, Open. -/
import Derived.Test.YtcpgamidimfflaaGreatQ09
import Derived.Test.YtcpgamidimfflaaGreatQ14
import Derived.Test.YtcpgamidimfflaaGreatQ13
import Derived.Test.YtcpgamidimfflaaGreatCloneH
import Derived.Test.YtcpgamidimfflaaGreatQ08
import Derived.Deep.RegionHeld3
import Derived.Deep.CutBlock
import Derived.Deep.RegionLaw
namespace Go.Proofs.YtcpgamidimfflaaGreat
open Go.RowKit Go.My Go.Maps
set_option linter.unusedSimpArgs false
set_option linter.unusedVariables false
abbrev asdE (S : List Ac) (nm : List UInt8) (x : Int) : Int := actE (fun a => asideE a x) S nm
abbrev asdS (S : List Ac) (nm : List UInt8) (x : Int) : List Ac := actS (fun a => asideE a x) (fun a => asideA a x) S nm
def putE (S : List Ac) (H : List Hd) (n : Int) (a : List UInt8) (x : Int) : Int :=
  if n < 1 ∨ 9999 < n ∨ x ≤ 0 then 1 else if (getH H a n).isSome then 7 else if 8 ≤ (ofH H a).length then 5 else asdE S a x
def putSS (S : List Ac) (H : List Hd) (n : Int) (a : List UInt8) (x : Int) : List Ac := if putE S H n a x = 0 then asdS S a x else S
def putHH (S : List Ac) (H : List Hd) (n : Int) (a : List UInt8) (x : Int) : List Hd := if putE S H n a x = 0 then insH ⟨n, a, x⟩ H else H
def freeE (S : List Ac) (H : List Hd) (a : List UInt8) (n : Int) : Int := match getH H a n with | none => 6 | some h => asdE S a (-h.sum)
def freeSS (S : List Ac) (H : List Hd) (a : List UInt8) (n : Int) : List Ac := match getH H a n with | none => S | some h => asdS S a (-h.sum)
def freeHH (S : List Ac) (H : List Hd) (a : List UInt8) (n : Int) : List Hd := if freeE S H a n = 0 then delH H a n else H
def legsT (a b : ByteArray) (x : Int) : List Lg := [⟨a, -x⟩, ⟨b, x⟩]
def takeE (S : List Ac) (H : List Hd) (a : ByteArray) (n : Int) (b : ByteArray) (x : Int) : Int :=
  match getH H a.data.toList n with
  | none => 6
  | some h => if x < 1 ∨ h.sum < x then 13 else if asdE S a.data.toList (-h.sum) = 0 then checkE (asdS S a.data.toList (-h.sum)) (legsT a b x) else asdE S a.data.toList (-h.sum)
def takeSS (S : List Ac) (H : List Hd) (a : ByteArray) (n : Int) (b : ByteArray) (x : Int) : List Ac :=
  if takeE S H a n b x = 0 then makeS (asdS S a.data.toList (-(sumO (getH H a.data.toList n)))) (legsT a b x) else S
def takeHH (S : List Ac) (H : List Hd) (a : ByteArray) (n : Int) (b : ByteArray) (x : Int) : List Hd := if takeE S H a n b x = 0 then delH H a.data.toList n else H
def Snd (S : List Ac) : Prop := ∀ a ∈ S, -a.lim ≤ a.hv - a.st
def PosH (H : List Hd) : Prop := ∀ h ∈ H, 1 ≤ h.num ∧ h.num ≤ 9999 ∧ 0 < h.sum ∧ h.sum ≤ 9223372036854775807 ∧ h.acct.length ≤ 8
theorem inv_aside {S : List Ac} (h : Inv S) (nm : List UInt8) (x : Int) : Inv (asdS S nm x) := inv_act h _ _ _ (ok_aside x) (fun a => asideA_name a x)
theorem aside_backH {S : List Ac} (hI : Inv S) (hS : Snd S) {nm : List UInt8} {x : Int} (hx : 0 < x ∧ x ≤ 9223372036854775807) (h0 : asdE S nm (-x) = 0) :
    asdE (asdS S nm (-x)) nm x = 0 ∧ asdS (asdS S nm (-x)) nm x = S := by
  unfold asdE actE at h0
  cases hq : getA S nm with
  | none => rw [hq] at h0; cases h0
  | some a =>
    rw [hq] at h0
    simp only at h0
    obtain ⟨hm, hnm⟩ := getA_some hq
    have e1 : asdS S nm (-x) = putA { a with st := a.st + -x } S := by
      unfold asdS actS
      rw [hq]
      simp only
      rw [if_pos h0]
      unfold asideA
      rw [if_pos h0]
    have hg1 : getA (putA { a with st := a.st + -x } S) nm = some { a with st := a.st + -x } := by
      have := getA_put_same S { a with st := a.st + -x }
      rw [← hnm]
      exact this
    have ha := hI.ok a hm
    have hs := hS a hm
    have h1 : asideE { a with st := a.st + -x } x = 0 := by
      unfold asideE
      unfold OkA In64 at ha
      rw [if_pos (by unfold In64; simp only; omega)]
      rw [if_neg (by
        unfold freeB
        rintro ⟨_, h⟩
        simp only [decide_eq_false_iff_not] at h
        omega), if_neg (by simp only; omega)]
    have h2 : asideA { a with st := a.st + -x } x = a := by
      unfold asideA
      rw [if_pos h1]
      have : a.st + -x + x = a.st := by omega
      simp only [this]
    rw [e1]
    constructor
    · unfold asdE actE
      rw [hg1]
      exact h1
    · unfold asdS actS
      rw [hg1]
      simp only
      rw [if_pos h1, h2]
      exact put_back hI.rise hq rfl
def At2 (m k : Nat) : Nat → Prop := fun i => i = m ∨ i = k
structure HRet (p m ph mh : Nat) (n : Int) (S : List Ac) (H : List Hd) (w : World) (e : Ending) (w' : World) : Prop where
  ret : e = .returned (.int .i64 n)
  ch : ChS w' p m S
  hd : HdS w' ph mh H
  fr : Fr (At2 m mh) w w'
theorem HdS.at1 {w w' : World} {p m q k : Nat} {S : List Ac} {H : List Hd} (h : HdS w q k H) (hc : ChS w p m S) (hne : k ≠ m) (hf : Fr (At1 m) w w') : HdS w' q k H :=
  h.fr hf (fun e => hc.2.ne_ h.1 (show q = m from e).symm) (fun e => hne e)
theorem ChS.at1H {w w' : World} {p m q k : Nat} {S : List Ac} {H : List Hd} (hc : ChS w p m S) (h : HdS w q k H) (hne : k ≠ m) (hf : Fr (At1 k) w w') : ChS w' p m S :=
  hc.fr hf (fun e => h.2.ne_ hc.1 (show p = k from e).symm) (fun e => hne (show m = k from e).symm)
end Go.Proofs.YtcpgamidimfflaaGreat
namespace Go.Proofs.YtcpgamidimfflaaGreat
open Go.RowKit Go.My Go.Maps
set_option linter.unusedSimpArgs false
set_option linter.unusedVariables false
set_option maxRecDepth 100000 in
set_option maxHeartbeats 4000000 in
theorem put_any (p m ph mh : Nat) (S : List Ac) (H : List Hd) (s : ByteArray) (n x : Int) (w : World) (hc : ChS w p m S) (hI : Inv S) (hh : HdS w ph mh H) (hH : H.length < 1000) (hne : mh ≠ m) (hs : s.size ≤ maxLen) (hn : In64 n) (hx : In64 x) :
    Calls Tryz.prog 202 #[.pointer (some ⟨ph, 0, none⟩), .pointer (some ⟨p, 0, none⟩), .agg #[.int .i64 n, .string s, .int .i64 x]] w (HRet p m ph mh (putE S H n s.data.toList x) (putSS S H n s.data.toList x) (putHH S H n s.data.toList x) w) := by
  have HB : Hid (∀ W, Fr No w W → HRet p m ph mh (putE S H n s.data.toList x) (putSS S H n s.data.toList x) (putHH S H n s.data.toList x) w (.returned (.int .i64 (putE S H n s.data.toList x))) W ∨ putE S H n s.data.toList x = 0) := fun W hW => by
    by_cases h0 : putE S H n s.data.toList x = 0
    · exact .inr h0
    · refine .inl ⟨rfl, ?_, ?_, hW.mono fun _ _ h => False.elim h⟩
      · unfold putSS; rw [if_neg h0]; exact hc.no hW
      · unfold putHH; rw [if_neg h0]; exact hh.no hW
  have HERR : Hid (∀ W k, Fr No w W → putE S H n s.data.toList x = k → k ≠ 0 → HRet p m ph mh (putE S H n s.data.toList x) (putSS S H n s.data.toList x) (putHH S H n s.data.toList x) w (.returned (.int .i64 k)) W) := fun W k hW h1 h2 => by
    rcases HB.out W hW with h | h
    · rw [← h1]; exact h
    · exact absurd (h1.symm.trans h) h2
  clear HB
  by_cases h1 : n < 1
  · have HE : Hid (putE S H n s.data.toList x = 1) := by show _ = _; unfold putE; rw [if_pos (.inl h1)]
    clear hc hh hI hs hn hx
    go_enter Tryz.func202, Tryz.ntmps202
    go_wp2
    go_ret
    exact HERR.out _ 1 ((Fr.refl _ _).alloc _) HE.out (by decide)
  by_cases h2 : 9999 < n
  · have HE : Hid (putE S H n s.data.toList x = 1) := by show _ = _; unfold putE; rw [if_pos (.inr (.inl h2))]
    clear hc hh hI hs hn hx
    go_enter Tryz.func202, Tryz.ntmps202
    go_wp2
    go_ret
    exact HERR.out _ 1 ((Fr.refl _ _).alloc _) HE.out (by decide)
  by_cases h3 : x ≤ 0
  · have HE : Hid (putE S H n s.data.toList x = 1) := by show _ = _; unfold putE; rw [if_pos (.inr (.inr h3))]
    clear hc hh hI hs hn hx
    go_enter Tryz.func202, Tryz.ntmps202
    go_wp2
    go_ret
    exact HERR.out _ 1 ((Fr.refl _ _).alloc _) HE.out (by decide)
  have HS := Lib.hid hs
  have HN := Lib.hid hn
  have HX := Lib.hid hx
  have HE0 : Hid (putE S H n s.data.toList x = if (getH H s.data.toList n).isSome then 7 else if 8 ≤ (ofH H s.data.toList).length then 5 else asdE S s.data.toList x) := by
    show _ = _
    unfold putE
    rw [if_neg (by omega)]
  have HC := Lib.hid hc
  have HH := Lib.hid hh
  have HI := Lib.hid hI
  have HLK : Hid (∀ W, Fr No w W → (Instr.lookup 187 (.map (some mh)) (.agg #[.string s, .int .i64 n]) true).run Tryz.prog W = .ok (.tuple #[.int .i64 (sumO (getH H s.data.toList n)), .bool (getH H s.data.toList n).isSome]) W) := fun W hW => (hh.no hW).2.look s n hs hn
  clear hc hh hI hs hn hx
  cases hg : getH H s.data.toList n with
  | some y =>
    have HE : Hid (putE S H n s.data.toList x = 7) := by show _ = _; rw [HE0.out, hg]; rfl
    rw [hg] at HLK
    simp only [Option.isSome_some] at HLK
    clear hg
    go_enter Tryz.func202, Tryz.ntmps202
    go_wp2
    refine wp_region_tailH 10 (by kernel_rfl) (by kernel_rfl) fun w6 hw6 => ?_
    have hf6 : Fr No w w6 := by rw [hw6]; exact (((Fr.refl No w).alloc _).alloc _).drew
    have p0 : w6.cell? ⟨ph, 0, none⟩ = some (.map (some mh)) := (HH.out.no hf6).1.cell 0
    have hk6 : Blk w6 (w.heap.size + 1) 215 #[.string s, .int .i64 n] := by
      rw [hw6]
      have h := Blk.new (w.alloc (.cells #[.int .i64 n, .string s, .int .i64 x] 129)) 215 #[.string s, .int .i64 n]
      rw [World.size_alloc] at h
      exact h
    have hb6 : Blk w6 w.heap.size 129 #[.int .i64 n, .string s, .int .i64 x] := by
      rw [hw6]
      exact (Blk.new w _ _).fr (((Fr.refl No _).alloc _).drew) (fun h => h)
    have k0 : w6.cell? ⟨w.heap.size + 1, 0, none⟩ = some (.string s) := hk6.cell 0
    have k1 : w6.cell? ⟨w.heap.size + 1, 1, none⟩ = some (.int .i64 n) := hk6.cell 1
    have hlk := HLK.out w6 hf6
    have HF6 := Lib.hid hf6
    clear hw6 hf6 hk6 hb6
    simp only [List.take_succ_cons, List.take_zero, List.drop_succ_cons, List.drop_zero]
    repeat still_step
    refine wpStill_nil ?_
    go_wp2
    go_ret
    exact HERR.out _ 7 HF6.out HE.out (by decide)
  | none =>
    rw [hg] at HLK HE0
    simp only [Option.isSome_none, Bool.false_eq_true, if_false, sumO] at HLK HE0
    have HG := Lib.hid hg
    clear hg
    go_enter Tryz.func202, Tryz.ntmps202
    go_wp2
    refine wp_region_tailH 10 (by kernel_rfl) (by kernel_rfl) fun w6 hw6 => ?_
    have hf6 : Fr No w w6 := by rw [hw6]; exact (((Fr.refl No w).alloc _).alloc _).drew
    have p0 : w6.cell? ⟨ph, 0, none⟩ = some (.map (some mh)) := (HH.out.no hf6).1.cell 0
    have hk6 : Blk w6 (w.heap.size + 1) 215 #[.string s, .int .i64 n] := by
      rw [hw6]
      have h := Blk.new (w.alloc (.cells #[.int .i64 n, .string s, .int .i64 x] 129)) 215 #[.string s, .int .i64 n]
      rw [World.size_alloc] at h
      exact h
    have hb6 : Blk w6 w.heap.size 129 #[.int .i64 n, .string s, .int .i64 x] := by
      rw [hw6]
      exact (Blk.new w _ _).fr (((Fr.refl No _).alloc _).drew) (fun h => h)
    have k0 : w6.cell? ⟨w.heap.size + 1, 0, none⟩ = some (.string s) := hk6.cell 0
    have k1 : w6.cell? ⟨w.heap.size + 1, 1, none⟩ = some (.int .i64 n) := hk6.cell 1
    have hlk := HLK.out w6 hf6
    have HF6 := Lib.hid hf6
    have hof := ofH_any ph mh H s w6 (HH.out.no hf6) (by omega)
    have x0 : w6.cell? ⟨w.heap.size, 0, none⟩ = some (.int .i64 n) := hb6.cell 0
    have x1 : w6.cell? ⟨w.heap.size, 1, none⟩ = some (.string s) := hb6.cell 1
    have HB6 := Lib.hid hb6
    have HK6 := Lib.hid hk6
    have HOF := Lib.hid hof
    clear hw6 hf6 hk6 hb6 hof
    simp only [List.take_succ_cons, List.take_zero, List.drop_succ_cons, List.drop_zero]
    repeat still_step
    refine wpStill_nil ?_
    go_wp2_with fail
    refine HOF.out.mono ?_
    rintro e w7 ⟨v, rfl, hown, hf7, hn7⟩
    obtain ⟨A7, c7, rfl, hl7, hc7⟩ := hown.form
    have HF7 := Lib.hid (HF6.out.trans (hf7.mono fun _ _ h => by simp [AtO] at h))
    have hf67 : Fr No w6 w7 := hf7.mono fun _ _ h => by simp [AtO] at h
    have hb7 := HB6.out.fr hf67 (fun h => h)
    have hk7 := HK6.out.fr hf67 (fun h => h)
    have HB7 := Lib.hid hb7
    have HK7 := Lib.hid hk7
    clear x0 x1 k0 k1 p0 hlk hown hf7 hn7 hf67 hl7 hc7
    by_cases h8 : 8 ≤ (ofH H s.data.toList).length
    · have HE : Hid (putE S H n s.data.toList x = 5) := by show _ = _; rw [HE0.out, if_pos h8]
      have h8' : (8 : Int) ≤ ((ofH H s.data.toList).length : Int) := by omega
      clear h8
      go_wp2
      go_ret
      exact HERR.out _ 5 HF7.out HE.out (by decide)
    · have HE1 : Hid (putE S H n s.data.toList x = asdE S s.data.toList x) := by show _ = _; rw [HE0.out, if_neg h8]
      have h8' : ¬ (8 : Int) ≤ ((ofH H s.data.toList).length : Int) := by omega
      have HAS := Lib.hid (aside_any p m S s x w7 (HC.out.no HF7.out) HS.out HI.out.len HI.out.ok HX.out)
      have x1 : w7.cell? ⟨w.heap.size, 1, none⟩ = some (.string s) := hb7.cell 1
      have x2 : w7.cell? ⟨w.heap.size, 2, none⟩ = some (.int .i64 x) := hb7.cell 2
      clear h8 hb7 hk7
      go_wp2_with fail
      refine HAS.out.mono ?_
      rintro e w8 ⟨rfl, hc8, hf8⟩
      clear x1 x2
      have hpl := HC.out.1.lt
      have hml := HC.out.2.lt
      have HH8 := Lib.hid ((HH.out.no HF7.out).at1 (HC.out.no HF7.out) hne hf8)
      have HF8 : Hid (Fr (At2 m mh) w w8) := (HF7.out.mono fun _ _ h => False.elim h).trans (hf8.mono fun _ _ h => .inl h)
      have hb8 := HB7.out.fr hf8 (fun e => by have : w.heap.size = m := e; omega)
      have hk8 := HK7.out.fr hf8 (fun e => by have : w.heap.size + 1 = m := e; omega)
      have HC8 := Lib.hid hc8
      clear hc8 hf8 hpl hml
      by_cases h0 : asdE S s.data.toList x = 0
      · have HP : Hid (putE S H n s.data.toList x = 0) := by show _ = _; rw [HE1.out, h0]
        have h0' := h0
        unfold asdE at h0'
        have hnil := fun W => run_eql_map_nil (P := Tryz.prog) W 187 _ _ (some mh) Tryz.underlying187
        have p8 : w8.cell? ⟨ph, 0, none⟩ = some (.map (some mh)) := HH8.out.1.cell 0
        have HB8 := Lib.hid hb8
        have HK8 := Lib.hid hk8
        rw [h0']
        clear h0 h0' hb8 hk8
        go_wp2
        refine wp_region_tailH 7 (by kernel_rfl) (by kernel_rfl) fun w9 hw9 => ?_
        have hf9 : Fr No w8 w9 := by rw [hw9]; exact (Fr.refl No w8).drew
        have p9 : w9.cell? ⟨ph, 0, none⟩ = some (.map (some mh)) := (HH8.out.no hf9).1.cell 0
        have k0 : w9.cell? ⟨w.heap.size + 1, 0, none⟩ = some (.string s) := (HK8.out.fr hf9 (fun h => h)).cell 0
        have k1 : w9.cell? ⟨w.heap.size + 1, 1, none⟩ = some (.int .i64 n) := (HK8.out.fr hf9 (fun h => h)).cell 1
        have x2 : w9.cell? ⟨w.heap.size, 2, none⟩ = some (.int .i64 x) := (HB8.out.fr hf9 (fun h => h)).cell 2
        have HF9 := Lib.hid hf9
        clear hw9 hf9 p8
        simp only [List.take_succ_cons, List.take_zero, List.drop_succ_cons, List.drop_zero]
        repeat still_step
        refine wpStill_nil ?_
        go_wp2_with (at_mapUpdate; refine wpList_putH _ rfl (.tmp 74) (.tmp 75) (.tmp 77) rfl rfl (HH8.out.no HF9.out).2 s n x rfl rfl ⟨by have h := HS.out; simpa using h, HN.out, HX.out⟩ HG.out (by unfold maxLen; omega) ?_; intro w10 hm10 hf10)
        go_ret
        refine ⟨by rw [HP.out]; rfl, ?_, ?_, HF8.out.trans ((HF9.out.mono fun _ _ h => False.elim h).trans (hf10.mono fun _ _ h => .inr h))⟩
        · unfold putSS
          rw [if_pos HP.out]
          exact (HC8.out.no HF9.out).at1H (HH8.out.no HF9.out) hne hf10
        · unfold putHH
          rw [if_pos HP.out]
          exact ⟨(HH8.out.no HF9.out).1.fr hf10 (fun e => (HH8.out).ne_ (show ph = mh from e).symm), hm10⟩
      · have HP : Hid (putE S H n s.data.toList x ≠ 0) := by show _ ≠ 0; rw [HE1.out]; exact h0
        have hc8 := HC8.out
        rw [act_err h0] at hc8
        have HC8' := Lib.hid hc8
        have h0' : (asdE S s.data.toList x != 0) = true := by rw [bne_iff_ne]; exact h0
        unfold asdE at h0'
        have HEQ : Hid (actE (fun a => asideE a x) S s.data.toList = putE S H n s.data.toList x) := HE1.out.symm
        generalize actE (fun a => asideE a x) S s.data.toList = ev at *
        clear h0 hb8 hk8 hc8
        go_wp2
        go_ret
        refine ⟨by rw [← HEQ.out]; rfl, ?_, ?_, HF8.out⟩
        · unfold putSS
          rw [if_neg HP.out]
          exact HC8'.out
        · unfold putHH
          rw [if_neg HP.out]
          exact HH8.out
end Go.Proofs.YtcpgamidimfflaaGreat
namespace Go.Proofs.YtcpgamidimfflaaGreat
open Go.RowKit Go.My Go.Maps
set_option linter.unusedSimpArgs false
set_option linter.unusedVariables false
set_option maxRecDepth 100000 in
set_option maxHeartbeats 4000000 in
theorem free_any (p m ph mh : Nat) (S : List Ac) (H : List Hd) (s : ByteArray) (n : Int) (w : World) (hc : ChS w p m S) (hI : Inv S) (hh : HdS w ph mh H) (hP : PosH H) (hH : H.length < 1000) (hne : mh ≠ m) (hs : s.size ≤ maxLen) (hn : In64 n) :
    Calls Tryz.prog 204 #[.pointer (some ⟨ph, 0, none⟩), .pointer (some ⟨p, 0, none⟩), .string s, .int .i64 n] w (HRet p m ph mh (freeE S H s.data.toList n) (freeSS S H s.data.toList n) (freeHH S H s.data.toList n) w) := by
  have hlk := hh.2.look s n hs hn
  have p0 : w.cell? ⟨ph, 0, none⟩ = some (.map (some mh)) := hh.1.cell 0
  have HS := Lib.hid hs
  have HN := Lib.hid hn
  have HC := Lib.hid hc
  have HH := Lib.hid hh
  have HI := Lib.hid hI
  clear hc hh hI hs hn
  cases hg : getH H s.data.toList n with
  | none =>
    have HE : Hid (freeE S H s.data.toList n = 6) := by show _ = _; unfold freeE; rw [hg]
    have HE2 : Hid (freeSS S H s.data.toList n = S) := by show _ = _; unfold freeSS; rw [hg]
    rw [hg] at hlk
    simp only [Option.isSome_none, sumO] at hlk
    clear hg
    go_enter Tryz.func204, Tryz.ntmps204
    go_wp2
    go_ret
    refine ⟨by rw [HE.out]; rfl, by rw [HE2.out]; exact HC.out, ?_, Fr.refl _ _⟩
    unfold freeHH
    rw [HE.out, if_neg (by decide)]
    exact HH.out
  | some y =>
    obtain ⟨-, -, hy1, hy2, -⟩ := hP y (getH_some hg).1
    have HE : Hid (freeE S H s.data.toList n = asdE S s.data.toList (-y.sum)) := by show _ = _; unfold freeE; rw [hg]
    have HE2 : Hid (freeSS S H s.data.toList n = asdS S s.data.toList (-y.sum)) := by show _ = _; unfold freeSS; rw [hg]
    rw [hg] at hlk
    simp only [Option.isSome_some, sumO] at hlk
    have HAS := Lib.hid (aside_any p m S s (-y.sum) w HC.out HS.out HI.out.len HI.out.ok (by unfold In64; omega))
    generalize y.sum = t at *
    clear hg hP
    go_enter Tryz.func204, Tryz.ntmps204
    go_wp2_with fail
    refine HAS.out.mono ?_
    rintro e w8 ⟨rfl, hc8, hf8⟩
    have HH8 := Lib.hid (HH.out.at1 HC.out hne hf8)
    have HF8 : Hid (Fr (At2 m mh) w w8) := hf8.mono fun _ _ h => .inl h
    have HC8 := Lib.hid hc8
    clear hc8 hf8 hlk p0
    by_cases h0 : asdE S s.data.toList (-t) = 0
    · have HP : Hid (freeE S H s.data.toList n = 0) := by show _ = _; rw [HE.out, h0]
      have h0' := h0
      unfold asdE at h0'
      have p8 : w8.cell? ⟨ph, 0, none⟩ = some (.map (some mh)) := HH8.out.1.cell 0
      rw [h0']
      clear h0 h0'
      go_wp2_with (at_delete; refine wpList_delH _ rfl (.tmp 42) (.tmp 45) rfl rfl HH8.out.2 s n rfl HS.out HN.out ?_; intro w10 hm10 hf10)
      go_ret
      refine ⟨by rw [HP.out]; rfl, ?_, ?_, HF8.out.trans (hf10.mono fun _ _ h => .inr h)⟩
      · rw [HE2.out]
        exact HC8.out.at1H HH8.out hne hf10
      · unfold freeHH
        rw [if_pos HP.out]
        exact ⟨HH8.out.1.fr hf10 (fun e => HH8.out.ne_ (show ph = mh from e).symm), hm10⟩
    · have HP : Hid (freeE S H s.data.toList n ≠ 0) := by show _ ≠ 0; rw [HE.out]; exact h0
      have h0' : (asdE S s.data.toList (-t) != 0) = true := by rw [bne_iff_ne]; exact h0
      unfold asdE at h0'
      have HEQ : Hid (actE (fun a => asideE a (-t)) S s.data.toList = freeE S H s.data.toList n) := HE.out.symm
      generalize actE (fun a => asideE a (-t)) S s.data.toList = ev at *
      clear h0
      go_wp2
      go_ret
      refine ⟨by rw [← HEQ.out]; rfl, by rw [HE2.out]; exact HC8.out, ?_, HF8.out⟩
      unfold freeHH
      rw [if_neg HP.out]
      exact HH8.out
end Go.Proofs.YtcpgamidimfflaaGreat
namespace Go.Proofs.YtcpgamidimfflaaGreat
open Go.RowKit Go.My Go.Maps
set_option linter.unusedSimpArgs false
set_option linter.unusedVariables false
theorem makeT_any (p m : Nat) (S : List Ac) (a b : ByteArray) (x : Int) (w : World) (h : ChS w p m S) (hI : Inv S) (ha : a.size ≤ maxLen) (hb : b.size ≤ maxLen) (hx : 0 < x ∧ x ≤ 9223372036854775807) :
    Calls Tryz.prog 200 #[.pointer (some ⟨p, 0, none⟩), .slice (some ⟨w.heap.size, 0, none⟩) 2 2] (w.alloc (.cells #[.string a, .int .i64 (-x), .string b, .int .i64 x] 152)) (DeedsE p m (checkE S (legsT a b x)) (makeS S (legsT a b x)) (w.alloc (.cells #[.string a, .int .i64 (-x), .string b, .int .i64 x] 152))) := by
  have hbk := Blk.new w 152 #[.string a, .int .i64 (-x), .string b, .int .i64 x]
  have hml := h.2.lt
  refine make_any p m S (fun k => k = w.heap.size) _ 2 [.string a, .int .i64 (-x), .string b, .int .i64 x] (legsT a b x) _ (h.no ((Fr.refl _ _).alloc _)) hI ⟨rfl, fun _ => ⟨_, rfl, rfl, fun j u hu => ?_⟩⟩ (fun k hk => ?_) ⟨rfl, fun i g hg => ?_⟩ (by simp [legsT])
  · rw [add_zero, hbk.cell j]
    simpa using hu
  · subst hk
    exact ⟨by simp, by omega⟩
  · have hlt : i < 2 := by have := (List.getElem?_eq_some_iff.1 hg).1; simpa [legsT] using this
    match i, hlt with
    | 0, _ =>
      simp only [legsT, List.getElem?_cons_zero, Option.some.injEq] at hg
      subst hg
      exact ⟨rfl, ha, by unfold In64; simp only; omega⟩
    | 1, _ =>
      simp only [legsT, List.getElem?_cons_succ, List.getElem?_cons_zero, Option.some.injEq] at hg
      subst hg
      exact ⟨rfl, hb, by unfold In64; simp only; omega⟩
set_option maxRecDepth 100000 in
set_option maxHeartbeats 4000000 in
theorem take_any (p m ph mh : Nat) (S : List Ac) (H : List Hd) (s b : ByteArray) (n x : Int) (w : World) (hc : ChS w p m S) (hI : Inv S) (hSn : Snd S) (hh : HdS w ph mh H) (hP : PosH H) (hH : H.length < 1000) (hne : mh ≠ m) (hs : s.size ≤ maxLen) (hb : b.size ≤ maxLen) (hn : In64 n) (hx : In64 x) :
    Calls Tryz.prog 203 #[.pointer (some ⟨ph, 0, none⟩), .pointer (some ⟨p, 0, none⟩), .string s, .int .i64 n, .string b, .int .i64 x] w (HRet p m ph mh (takeE S H s n b x) (takeSS S H s n b x) (takeHH S H s n b x) w) := by
  have hlk := hh.2.look s n hs hn
  have p0 : w.cell? ⟨ph, 0, none⟩ = some (.map (some mh)) := hh.1.cell 0
  have HS := Lib.hid hs
  have HBZ := Lib.hid hb
  have HN := Lib.hid hn
  have HX := Lib.hid hx
  have HC := Lib.hid hc
  have HH := Lib.hid hh
  have HI := Lib.hid hI
  have HERR : Hid (∀ W k, ChS W p m S → HdS W ph mh H → Fr (At2 m mh) w W → takeE S H s n b x = k → k ≠ 0 → HRet p m ph mh (takeE S H s n b x) (takeSS S H s n b x) (takeHH S H s n b x) w (.returned (.int .i64 k)) W) := fun W k h1 h2 h3 h4 h5 => by
    rw [← h4] at h5 ⊢
    refine ⟨rfl, ?_, ?_, h3⟩
    · unfold takeSS; rw [if_neg h5]; exact h1
    · unfold takeHH; rw [if_neg h5]; exact h2
  clear hc hh hI hs hn hb hx
  cases hg : getH H s.data.toList n with
  | none =>
    have HE : Hid (takeE S H s n b x = 6) := by show _ = _; unfold takeE; rw [hg]
    rw [hg] at hlk
    simp only [Option.isSome_none, sumO] at hlk
    clear hg
    go_enter Tryz.func203, Tryz.ntmps203
    go_wp2
    go_ret
    exact HERR.out _ 6 HC.out HH.out (Fr.refl _ _) HE.out (by decide)
  | some y =>
    obtain ⟨-, -, hy1, hy2, -⟩ := hP y (getH_some hg).1
    have HE0 : Hid (takeE S H s n b x = if x < 1 ∨ y.sum < x then 13 else if asdE S s.data.toList (-y.sum) = 0 then checkE (asdS S s.data.toList (-y.sum)) (legsT s b x) else asdE S s.data.toList (-y.sum)) := by show _ = _; unfold takeE; rw [hg]
    have HE2 : Hid (takeSS S H s n b x = if takeE S H s n b x = 0 then makeS (asdS S s.data.toList (-y.sum)) (legsT s b x) else S) := by show _ = _; unfold takeSS; rw [hg]; rfl
    rw [hg] at hlk
    simp only [Option.isSome_some, sumO] at hlk
    have HAS := Lib.hid (aside_any p m S s (-y.sum) w HC.out HS.out HI.out.len HI.out.ok (by unfold In64; omega))
    have HBACK : Hid (asdE S s.data.toList (-y.sum) = 0 → asdE (asdS S s.data.toList (-y.sum)) s.data.toList y.sum = 0 ∧ asdS (asdS S s.data.toList (-y.sum)) s.data.toList y.sum = S) := aside_backH HI.out hSn ⟨hy1, hy2⟩
    generalize y.sum = t at *
    clear hg hP
    by_cases h1 : x < 1
    · have HE : Hid (takeE S H s n b x = 13) := by show _ = _; rw [HE0.out, if_pos (.inl h1)]
      go_enter Tryz.func203, Tryz.ntmps203
      go_wp2
      go_ret
      exact HERR.out _ 13 HC.out HH.out (Fr.refl _ _) HE.out (by decide)
    by_cases h2 : t < x
    · have HE : Hid (takeE S H s n b x = 13) := by show _ = _; rw [HE0.out, if_pos (.inr h2)]
      go_enter Tryz.func203, Tryz.ntmps203
      go_wp2
      go_ret
      exact HERR.out _ 13 HC.out HH.out (Fr.refl _ _) HE.out (by decide)
    have HE1 : Hid (takeE S H s n b x = if asdE S s.data.toList (-t) = 0 then checkE (asdS S s.data.toList (-t)) (legsT s b x) else asdE S s.data.toList (-t)) := by show _ = _; rw [HE0.out, if_neg (by omega)]
    clear HE0
    go_enter Tryz.func203, Tryz.ntmps203
    go_wp2_with fail
    refine HAS.out.mono ?_
    rintro e w8 ⟨rfl, hc8, hf8⟩
    have HH8 := Lib.hid (HH.out.at1 HC.out hne hf8)
    have HF8 : Hid (Fr (At2 m mh) w w8) := hf8.mono fun _ _ h => .inl h
    have HC8 := Lib.hid hc8
    clear hc8 hf8 hlk p0
    by_cases h0 : asdE S s.data.toList (-t) = 0
    · obtain ⟨hb1, hb2⟩ := HBACK.out h0
      have HE : Hid (takeE S H s n b x = checkE (asdS S s.data.toList (-t)) (legsT s b x)) := by show _ = _; rw [HE1.out, if_pos h0]
      have HI1 := Lib.hid (inv_aside HI.out s.data.toList (-t))
      have HMK := Lib.hid (makeT_any p m (asdS S s.data.toList (-t)) s b x w8 HC8.out HI1.out HS.out HBZ.out ⟨by omega, by omega⟩)
      have h0' := h0
      unfold asdE at h0'
      rw [h0']
      clear h0 h0'
      generalize asdS S s.data.toList (-t) = S1 at *
      go_wp2_with fail
      refine HMK.out.mono ?_
      rintro e w9 ⟨rfl, hc9, hf9⟩
      have hf9' : Fr (At1 m) w8 w9 := ((Fr.refl _ _).alloc _).trans hf9
      have HH9 := Lib.hid (HH8.out.at1 HC8.out hne hf9')
      have HC9 := Lib.hid hc9
      have HF9 : Hid (Fr (At2 m mh) w w9) := HF8.out.trans (hf9'.mono fun _ _ h => .inl h)
      clear hc9 hf9 hf9'
      by_cases h3 : checkE S1 (legsT s b x) = 0
      · have HP : Hid (takeE S H s n b x = 0) := by show _ = _; rw [HE.out, h3]
        rw [h3]
        have p9 : w9.cell? ⟨ph, 0, none⟩ = some (.map (some mh)) := HH9.out.1.cell 0
        clear h3
        go_wp2_with (at_delete; refine wpList_delH _ rfl (.tmp 71) (.tmp 74) rfl rfl HH9.out.2 s n rfl HS.out HN.out ?_; intro w10 hm10 hf10)
        go_ret
        refine ⟨by rw [HP.out]; rfl, ?_, ?_, HF9.out.trans (hf10.mono fun _ _ h => .inr h)⟩
        · rw [HE2.out, if_pos HP.out]
          exact HC9.out.at1H HH9.out hne hf10
        · unfold takeHH
          rw [if_pos HP.out]
          exact ⟨HH9.out.1.fr hf10 (fun e => HH9.out.ne_ (show ph = mh from e).symm), hm10⟩
      · have hc9 := HC9.out
        unfold makeS at hc9
        rw [if_neg h3] at hc9
        have HAS2 := aside_any p m S1 s t w9 hc9 HS.out HI1.out.len HI1.out.ok (by unfold In64; omega)
        unfold asdE at hb1
        unfold asdS at hb2
        rw [hb1, hb2] at HAS2
        have HAS2 := Lib.hid HAS2
        have HC9' := Lib.hid hc9
        have h3' : (checkE S1 (legsT s b x) != 0) = true := by rw [bne_iff_ne]; exact h3
        have HNZ := Lib.hid h3
        generalize checkE S1 (legsT s b x) = ev at *
        clear h3 hc9 hb1 hb2
        go_wp2_with fail
        refine HAS2.out.mono ?_
        rintro e w10 ⟨rfl, hc10, hf10⟩
        have HC10 := Lib.hid hc10
        have HH10 := Lib.hid (HH9.out.at1 HC9'.out hne hf10)
        have HF10 : Hid (Fr (At2 m mh) w w10) := HF9.out.trans (hf10.mono fun _ _ h => .inl h)
        clear hc10 hf10
        go_wp2
        go_ret
        exact HERR.out _ ev HC10.out HH10.out HF10.out HE.out HNZ.out
    · have HE : Hid (takeE S H s n b x = asdE S s.data.toList (-t)) := by show _ = _; rw [HE1.out, if_neg h0]
      have h0' : (asdE S s.data.toList (-t) != 0) = true := by rw [bne_iff_ne]; exact h0
      have hc8 := HC8.out
      rw [act_err h0] at hc8
      have HC8' := Lib.hid hc8
      have HNZ := Lib.hid h0
      unfold asdE at h0' HNZ HE
      clear HC8 HBACK
      generalize actE (fun a => asideE a (-t)) S s.data.toList = ev at *
      clear h0 hc8
      go_wp2
      go_ret
      exact HERR.out _ ev HC8'.out HH8.out HF8.out HE.out HNZ.out
end Go.Proofs.YtcpgamidimfflaaGreat
namespace Go.Proofs.YtcpgamidimfflaaGreat
open Go.RowKit Go.My Go.Maps
set_option linter.unusedSimpArgs false
set_option linter.unusedVariables false
end Go.Proofs.YtcpgamidimfflaaGreat
namespace Go.Proofs.YtcpgamidimfflaaGreat
open Go.RowKit Go.My Go.Maps
set_option linter.unusedSimpArgs false
set_option linter.unusedVariables false
attribute [local go_sem ↓] Go.wp_at_zero Go.wp_at_succ
end Go.Proofs.YtcpgamidimfflaaGreat
namespace Go.Proofs.YtcpgamidimfflaaGreat
open Go.RowKit Go.My Go.Maps
set_option linter.unusedSimpArgs false
set_option linter.unusedVariables false
attribute [local go_sem ↓] Go.wp_at_zero Go.wp_at_succ
end Go.Proofs.YtcpgamidimfflaaGreat
