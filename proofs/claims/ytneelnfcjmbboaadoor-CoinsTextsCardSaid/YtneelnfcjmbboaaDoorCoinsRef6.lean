/- Contracts of the document's own answers for coins: Read; and what both read. -/
import Derived.Test.YtneelnfcjmbboaaDoorCoinsRef5
namespace Go.Proofs.YtneelnfcjmbboaaDoor
open Go.RowKit Go.My
set_option linter.unusedSimpArgs false
set_option linter.unusedVariables false

/-- what its digits spell -/
def spellF (l : List UInt8) : Int := if l.head? = some 45 then wrap64 (-(wrap64 (read64 l : Int))) else wrap64 (read64 l : Int)
theorem wrap64_bd (x : Int) : In64 (wrap64 x) := by have := wrap64_eq x; unfold In64; omega
theorem spellF_in (l : List UInt8) : In64 (spellF l) := by unfold spellF; split <;> exact wrap64_bd _

def RdRel (s : ByteArray) (w : World) (nv iv : Value) : Prop :=
  ∃ i : Nat, i ≤ s.size ∧ iv = .int .i64 i ∧ nv = .int .u64 (read64 (s.data.toList.take i) : Int)
theorem ba_head (s : ByteArray) (h : 0 < s.size) : s.data.toList.head? = some s[0] := by
  obtain ⟨⟨l⟩⟩ := s
  cases l with
  | nil => exact absurd h (by decide)
  | cons c r => rfl
theorem ba_nil (s : ByteArray) (h : ¬ 0 < s.size) : s.data.toList.head? = none := by
  obtain ⟨⟨l⟩⟩ := s
  cases l with
  | nil => rfl
  | cons c r => exact absurd (Nat.succ_pos _) h
theorem ba_snoc (s : ByteArray) (k : Nat) (h : k < s.size) : s.data.toList.take (k + 1) = s.data.toList.take k ++ [s[k]] := by
  rw [List.take_succ_eq_append_getElem (by simpa using h)]; rfl

theorem rd_start (s : ByteArray) (w : World) : RdRel s w (.int .u64 0) (.int .i64 0) := ⟨0, Nat.zero_le _, rfl, rfl⟩
theorem read64_lt (l : List UInt8) : read64 l < 18446744073709551616 := by
  unfold read64
  exact fold64_lt l 0 (by decide)
theorem rd_next (s : ByteArray) (k n : Nat) (h : k < s.size) (hn : read64 (s.data.toList.take k) = n) : read64 (s.data.toList.take (k + 1)) = acc64 n s[k] := by
  rw [ba_snoc s k h, read64_snoc, hn]
theorem rd_end (s : ByteArray) (w : World) (k : Nat) (h : k < s.size) (v : Int) (hv : v = (read64 (s.data.toList.take (k + 1)) : Int)) :
    RdRel s w (.int .u64 v) (.int .i64 ((k : Int) + 1)) ∧ s.size - (intOf (.int .i64 ((k : Int) + 1))).toNat < s.size - (intOf (.int .i64 (k : Int))).toNat := by
  subst hv
  exact ⟨⟨k + 1, h, by go_num, rfl⟩, by simp [intOf]; omega⟩
theorem acc_in (n : Nat) (c : UInt8) (h1 : (48 : Int) ≤ (c.toNat : Int)) (h2 : (c.toNat : Int) ≤ 57) : IntKind.u64.wrap (IntKind.u64.wrap (10 * (n : Int)) + ((c.toNat : Int) - 48)) = (acc64 n c : Int) := by
  unfold acc64
  rw [if_pos (by omega), IntKind.wrap_u64, IntKind.wrap_u64]
  omega
theorem acc_out (n : Nat) (c : UInt8) (h : ¬ ((48 : Int) ≤ (c.toNat : Int) ∧ (c.toNat : Int) ≤ 57)) : (n : Int) = (acc64 n c : Int) := by
  unfold acc64
  rw [if_neg (by omega)]
theorem rd_down (s : ByteArray) : ∃ b : Bool, (∀ h : 0 < s.size, ((s[0].toNat : Int) == 45) = b) ∧ (¬ 0 < s.size → b = false) ∧ (if b then wrap64 (-(wrap64 (read64 s.data.toList : Int))) else wrap64 (read64 s.data.toList : Int)) = spellF s.data.toList := by
  unfold spellF
  by_cases h0 : 0 < s.size
  · refine ⟨(s[0].toNat : Int) == 45, fun _ => rfl, fun h => absurd h0 h, ?_⟩
    rw [ba_head s h0]
    by_cases hc : s[0] = 45
    · rw [if_pos (by rw [hc]; decide), if_pos (by rw [hc])]
    · have h1 : ¬ s[0].toNat = 45 := fun h => hc (UInt8.toNat_inj.1 h)
      rw [if_neg (by rw [beq_iff_eq]; omega), if_neg (by intro h; injection h with h; exact hc h)]
  · refine ⟨false, fun h => absurd h h0, fun _ => rfl, ?_⟩
    rw [ba_nil s h0, if_neg (by simp), if_neg (by simp)]
theorem ba_eq (T : List UInt8) (s : ByteArray) : (⟨T.toArray⟩ : ByteArray) = s ↔ T = s.data.toList := by
  constructor
  · intro h; rw [← h]
  · intro h; rw [h]
theorem ba_full (s : ByteArray) : s.data.toList.take s.size = s.data.toList := by
  have : s.data.toList.length = s.size := by simp
  rw [← this, List.take_length]

set_option maxRecDepth 100000 in
set_option maxHeartbeats 4000000 in
theorem refread_big (s : ByteArray) (d : Int) (w : World) (hs : s.size ≤ 60) (hbig : 22 < s.size) : Calls Tryd.prog 19 #[.string s, .int .i64 d] w fun e w' => e = .returned (.tuple #[.int .i64 0, .int .i64 3]) ∧ w = w' := by
  have h0 : 0 < s.size := by omega
  by_cases hc : s[0].toNat = 45
  · have hcc : ((s[0].toNat : Int) == 45) = true := by rw [beq_iff_eq]; omega
    clear hc
    go_enter Tryd.func19, Tryd.ntmps19
    go_wp2
    go_ret2
    exact ⟨rfl, rfl⟩
  · have hcc : ((s[0].toNat : Int) == 45) = false := by rw [beq_eq_false_iff_ne]; omega
    clear hc
    go_enter Tryd.func19, Tryd.ntmps19
    go_wp2
    go_ret2
    exact ⟨rfl, rfl⟩

set_option maxRecDepth 100000 in
set_option maxHeartbeats 4000000 in
theorem refread_small (s : ByteArray) (d X : Int) (b : Bool) (T : List UInt8) (w : World) (hsm : s.size ≤ 22) (hT : ∀ W, Calls Tryd.prog 21 #[.int .i64 X, .int .i64 d] W fun e w' => e = .returned (.string ⟨T.toArray⟩) ∧ W = w')
    (hb3 : ∀ h : 0 < s.size, ((s[0].toNat : Int) == 45) = b) (hb4 : ¬ 0 < s.size → b = false) (hX : (if b then wrap64 (-(wrap64 (read64 s.data.toList : Int))) else wrap64 (read64 s.data.toList : Int)) = X) :
    Calls Tryd.prog 19 #[.string s, .int .i64 d] w fun e w' => e = .returned (if (⟨T.toArray⟩ : ByteArray) = s then .tuple #[.int .i64 X, .int .i64 0] else .tuple #[.int .i64 0, .int .i64 3]) ∧ w = w' := by
  have HT := Lib.hid hT
  have HX := Lib.hid hX
  have hst := Lib.hid (rd_start s w)
  have hfull := Lib.hid (ba_full s)
  have hNL := Lib.hid (read64_lt s.data.toList)
  clear hT hX
  by_cases h0 : 0 < s.size
  all_goals
    first
      | have hcc := hb3 h0
      | (obtain rfl := hb4 h0
         have hcc : True := trivial)
    clear hb3 hb4
    go_enter Tryd.func19, Tryd.ntmps19
    go_wp2
    go_loop [6, 8] (fun nv iv => RdRel s w nv iv) (fun _ iv => s.size - (intOf iv).toNat)
    case atStart => exact hst.out
    case round =>
      obtain ⟨k, hk, rfl, rfl⟩ := hrel
      by_cases hlt : k < s.size
      · have hcb : s[k].toNat < 256 := UInt8.toNat_lt _
        have HR := Lib.hid (rd_next s k _ hlt rfl)
        have HEND := Lib.hid (rd_end s w k hlt)
        have hnl := Lib.hid (read64_lt (s.data.toList.take k))
        generalize read64 (s.data.toList.take k) = n at *
        generalize read64 (s.data.toList.take (k + 1)) = n2 at *
        first
          | (exfalso; omega)
          | (by_cases hd1 : (48 : Int) ≤ (s[k].toNat : Int) <;> by_cases hd2 : (s[k].toNat : Int) ≤ (57 : Int)
             all_goals
               go_wp2
               refine HEND.out _ ?_
               rw [HR.out]
               first
                 | exact acc_in n _ hd1 hd2
                 | exact acc_out n _ (fun h => by omega))
      · obtain rfl : k = s.size := by omega
        rw [hfull.out]
        have hNL2 := hNL.out
        generalize read64 s.data.toList = n at *
        have hn64 : (n : Int) ≤ 18446744073709551615 := by omega
        have HN64 := Lib.hid hn64
        clear hNL2 hn64 hlt
        have hXX := HX.out
        by_cases hE : (⟨T.toArray⟩ : ByteArray) = s
        all_goals
          have HE := Lib.hid hE
          have hTE : (T == s.toList) = decide ((⟨T.toArray⟩ : ByteArray) = s) := by
            rw [ByteArray.toList_eq, Bool.eq_iff_iff, beq_iff_eq, decide_eq_true_eq]
            exact (ba_eq T s).symm
          first | rw [decide_eq_true hE] at hTE | rw [decide_eq_false hE] at hTE
          clear hE
          try cases b
          all_goals
            simp only [Bool.false_eq_true, if_false, if_true] at hXX
            subst hXX
            go_wp2_with (go_at_call 21; refine (HT.out _).mono ?_; rintro e w2 ⟨rfl, rfl⟩)
            go_ret2
            refine ⟨?_, by trivial⟩
            first
              | rfl
              | (rw [if_pos HE.out]; rfl)
              | (rw [if_neg HE.out]; rfl)

theorem refread_any (s : ByteArray) (d : Int) (w : World) (hs : s.size ≤ 60) : Calls Tryd.prog 19 #[.string s, .int .i64 d] w fun e w' => e = .returned (if 22 < s.size then .tuple #[.int .i64 0, .int .i64 3] else readV (textF (spellF s.data.toList) d) s.data.toList (spellF s.data.toList)) ∧ w = w' := by
  by_cases hbig : 22 < s.size
  · rw [if_pos hbig]
    exact refread_big s d w hs hbig
  · rw [if_neg hbig]
    obtain ⟨b, h1, h2, h3⟩ := rd_down s
    have h := refread_small s d _ b _ w (by omega) (fun W => reftext_any (spellF s.data.toList) d W (spellF_in _)) h1 h2 h3
    unfold readV
    by_cases hE : textF (spellF s.data.toList) d = s.data.toList
    · rw [if_pos hE]
      rwa [if_pos ((ba_eq _ _).2 hE)] at h
    · rw [if_neg hE]
      rwa [if_neg (fun h => hE ((ba_eq _ _).1 h))] at h
end Go.Proofs.YtneelnfcjmbboaaDoor
