/- Contracts of package chart: All. -/
import Derived.Test.YtjbeaoabhhaiiaaGreatChart6
import Derived.Test.YtjbeaoabhhaiiaaGreatIter
namespace Go.Proofs.YtjbeaoabhhaiiaaGreat
open Go.RowKit Go.My Go.Maps
set_option linter.unusedSimpArgs false
set_option linter.unusedVariables false

/-- an account's cells -/
def acC (a : Ac) : List Value := [.string ⟨a.name.toArray⟩, .int .i64 a.hv, .int .i64 a.st, .int .i64 a.lim]
def acs (S : List Ac) : List Value := S.flatMap acC
theorem acs_length (S : List Ac) : (acs S).length = S.length * 4 := by
  induction S with
  | nil => rfl
  | cons a S ih => show (acC a ++ acs S).length = _; rw [List.length_append, ih, List.length_cons]; simp [acC]; omega
theorem acs_append (S T : List Ac) : acs (S ++ T) = acs S ++ acs T := by unfold acs; rw [List.flatMap_append]
theorem acs_one (a : Ac) : acs [a] = acC a := by simp [acs]
/-- names that a map takes -/
def NmS (S : List Ac) : Prop := ∀ a ∈ S, a.name.length ≤ 8

theorem elA : El Tryz.prog 77 80 4 40 := ⟨Tryz.underlying77, by
  have h : (Tryz.prog.info? 80).map (fun i => (i.zero, i.size, i.bytes)) = some (some (.agg #[.string ⟨#[]⟩, .int .i64 0, .int .i64 0, .int .i64 0]), 4, 40) := by kernel_rfl
  obtain ⟨i, hi, hz, hs, hb⟩ := info_parts h
  exact ⟨i, _, hi, hz, hs, hb, rfl⟩, by omega⟩

theorem getA_mem {S : List Ac} (hr : Rise S) {a : Ac} (h : a ∈ S) : getA S a.name = some a := by
  cases hg : getA S a.name with
  | none => exact absurd rfl (getA_none hg a h)
  | some b =>
    obtain ⟨hb, hn⟩ := getA_some hg
    induction S with
    | nil => cases h
    | cons c r ih =>
      obtain ⟨h1, h2⟩ := List.pairwise_cons.1 hr
      unfold getA at hg
      rw [List.find?_cons] at hg
      by_cases hc : c.name = a.name
      · rw [beq_iff_eq.2 hc] at hg
        injection hg with hg
        subst hg
        rcases List.mem_cons.1 h with rfl | h
        · rfl
        · have h3 := h1 a h
          rw [show c.key = a.key by unfold Ac.key; rw [hc], WideShapes.before_irrefl] at h3
          cases h3
      · rw [beq_eq_false_iff_ne.2 hc] at hg
        rcases List.mem_cons.1 h with rfl | h
        · exact absurd rfl hc
        · have hbr : b ∈ r := List.mem_of_find?_eq_some hg
          exact ih h2 h hg hbr

theorem MpS.look_at {w : World} {m : Nat} {S : List Ac} (h : MpS w m S) (hN : NmS S) (k : Nat) (hk : k < S.length) :
    (Instr.lookup 133 (.map (some m)) (.string ⟨S[k].name.toArray⟩) false).run Tryz.prog w = .ok (.agg #[.string ⟨S[k].name.toArray⟩, .int .i64 S[k].hv, .int .i64 S[k].st, .int .i64 S[k].lim]) w := by
  have hm : S[k] ∈ S := List.getElem_mem hk
  obtain ⟨v, ps, hrun, hv⟩ := h.1.lookup law Tryz.underlying133 (zeroA w) (acR_val noA) (key_mk ⟨S[k].name.toArray⟩ (by have := hN _ hm; show S[k].name.length ≤ _; unfold maxLen; omega))
  rw [at_dOf] at hv
  rw [show (⟨S[k].name.toArray⟩ : ByteArray).data.toList = S[k].name from rfl, getA_mem h.2 hm] at hv
  rw [acR_at hv] at hrun
  exact hrun

def AllRel (w : World) (m : Nat) (S : List Ac) (lv iv : Value) (wr : World) : Prop :=
  ∃ k : Nat, k ≤ S.length ∧ iv = .int .i64 k ∧ Own wr 80 4 lv k (acs (S.take k)) ∧ Fr No w wr ∧ Newer w.heap.size none lv.ownBlock

theorem list_mk (l : List UInt8) : (⟨⟨l⟩⟩ : ByteArray) = ⟨l.toArray⟩ := rfl

set_option maxRecDepth 100000 in
set_option maxHeartbeats 1000000 in
theorem all_any (p m : Nat) (S : List Ac) (w : World) (h : ChS w p m S) (hN : NmS S) (hS : S.length ≤ 12) :
    Calls Tryz.prog 50 #[.pointer (some ⟨p, 0, none⟩)] w (RetOwn w 80 4 none S.length (acs S)) := by
  have HC := Lib.hid h
  have HN := Lib.hid hN
  have hpl := h.1.lt
  have hml := h.2.lt
  have c0 := h.1.cell 0
  simp only [List.getElem?_toArray, List.getElem?_cons_zero] at c0
  have HKEYS : Hid (Calls Tryz.prog 76 #[.map (some m)] w fun e w' => e = .returned (.func (.func 122) #[] #[.pointer (some ⟨w.heap.size, 0, none⟩)]) ∧ w' = w.alloc (.cells #[.map (some m)] 133)) := callsIn_wide.1 (Tryz.maps_Keys_76 (some m) w)
  have HSORT : Hid (Calls Tryz.prog 75 #[.func (.func 122) #[] #[.pointer (some ⟨w.heap.size, 0, none⟩)]] (w.alloc (.cells #[.map (some m)] 133)) fun e w' => ∃ v, e = .returned v ∧ Own w' 9 1 v S.length (S.map fun a => .string ⟨a.name.toArray⟩) ∧ Fr No w w' ∧ ∀ k, v.ownBlock = some k → w.heap.size ≤ k) := by
    refine Calls.mono (callsIn_wide.1 (Tryz.slices_Sorted_keys_75_76 m S.length (dOf S) acR w h.2.1 (by rw [size_dOf]; unfold maxLen; omega) (by rw [size_dOf]; omega))) ?_
    rintro e w' ⟨v, ss, rfl, hp, hown, _, hb⟩
    have h1 := sorted_names h.2.2 hp
    have hl : ss.length = S.length := by rw [hp.length_eq, keys_dOf, List.length_map]
    have h2 : (ss.mergeSort fun x y => decide (x ≤ y)) = S.map Ac.name := h1
    rw [h2, hl, List.map_map] at hown
    refine ⟨v, rfl, Own.of_owns hown, ((Fr.refl No w).alloc _).trans (Fr.of_below hb _), fun k hk => ?_⟩
    have := (hown.lt k hk).1
    rw [World.size_alloc] at this
    omega
  clear h hN
  go_enter Tryz.func50, Tryz.ntmps50
  go_wp2_with (first | (go_at_call 76; refine HKEYS.out.mono ?_; rintro e w1 ⟨rfl, rfl⟩) | (go_at_call 75; refine HSORT.out.mono ?_; rintro e w2 ⟨v, rfl, hnames, hf2, hnew2⟩; obtain ⟨A, c, rfl, hlc, hcm⟩ := hnames.form))
  have hsc : Hid (S.length * 1 = S.length) := by show _ = _; omega
  go_loopw [3, 15] (fun lv iv wr => AllRel w2 m S lv iv wr) (fun _ iv _ => S.length - (intOf iv).toNat)
  case atStart => exact ⟨0, Nat.zero_le _, rfl, Own.nil _ _ _, Fr.refl _ _, .inl rfl⟩
  case round =>
    obtain ⟨k, hk, rfl, hown, hfr, hnew⟩ := hrel
    by_cases hlt : k < S.length
    · obtain ⟨ad, u, rfl, _, hx, hcu⟩ := (hnames.rd.fr (by omega) hfr (fun _ _ _ h => h)).at_ hlt
      rw [List.getElem?_map, List.getElem?_eq_getElem hlt] at hx
      simp only [Option.map_some] at hx
      injection hx with hx
      subst hx
      have hCr := HC.out.no (hf2.trans hfr)
      have p0 := hCr.1.cell 0
      simp only [List.getElem?_toArray, List.getElem?_cons_zero] at p0
      have hlk := hCr.2.look_at HN.out k hlt
      have E : Hid (acs (S.take (k + 1)) = acs (S.take k) ++ [.string ⟨S[k].name.toArray⟩, .int .i64 S[k].hv, .int .i64 S[k].st, .int .i64 S[k].lim]) := by
        show _ = _
        rw [List.take_succ_eq_append_getElem hlt, acs_append, acs_one]
        rfl
      have hX : Hid (k + 1 ≤ maxLen ∧ (k + 1) * 40 ≤ 140737488355328) := by
        refine ⟨?_, ?_⟩ <;> (try simp only [maxLen]) <;> omega
      generalize S[k].name.toArray = nma at *
      generalize S[k].hv = hv at *
      generalize S[k].st = st at *
      generalize S[k].lim = lim at *
      clear hk hCr
      go_wp2_with (at_builtin; refine wpList_app _ rfl (.tmp 19) (.tmp 26) 77 77 rfl elA (hown.alloc _) rfl (Src.of_new wr.heap.size (heap_alloc_new wr _) Tryz.underlying77 rfl (by simp [Value.oneCell'])) rfl hX.out.1 hX.out.2 ?_; intro v1 w3 hown3 hfr3 hnew3)
      go_roundw
      case rel =>
        refine ⟨k + 1, by omega, by go_num, ?_, ?_, ?_⟩
        · rw [E.out]
          exact hown3
        · exact fr_no (hfr.alloc _) hnew hfr3
        · exact hnew.trans (Newer.of hnew3) (by have := hfr.size; simp; omega)
      case measure => simp [intOf]; omega
    · obtain rfl : k = S.length := by omega
      rw [List.take_length] at hown
      go_wp2
      go_ret
      refine ⟨_, rfl, hown, (hf2.trans hfr).mono fun _ _ h => False.elim h, ?_⟩
      have := hf2.size
      exact Newer.trans (.inl rfl) hnew (by omega)
end Go.Proofs.YtjbeaoabhhaiiaaGreat
