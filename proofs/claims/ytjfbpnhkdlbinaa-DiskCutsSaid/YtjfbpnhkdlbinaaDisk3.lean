/- Contracts of package disk: Up. -/
import Derived.Test.YtjfbpnhkdlbinaaDisk2
import Derived.Deep.DeepCutAuto
namespace Go.Proofs.Ytjfbpnhkdlbinaa
open Go.RowKit Go.My
set_option linter.unusedSimpArgs false
set_option linter.unusedVariables false

/-- spoils as cells -/
def sp (l : List (Int × UInt8)) : List Value := l.flatMap fun s => [.int .i64 s.1, .int .u8 (s.2.toNat : Int)]
theorem sp_length (l : List (Int × UInt8)) : (sp l).length = l.length * 2 := by
  induction l with
  | nil => rfl
  | cons s l ih =>
    have e : sp (s :: l) = [.int .i64 s.1, .int .u8 (s.2.toNat : Int)] ++ sp l := by simp [sp]
    rw [e, List.length_append, ih, List.length_cons]
    simp
    omega
theorem sp_get (l : List (Int × UInt8)) : ∀ k (h : k < l.length), (sp l)[k * 2]? = some (.int .i64 l[k].1) ∧ (sp l)[k * 2 + 1]? = some (.int .u8 (l[k].2.toNat : Int)) := by
  induction l with
  | nil => intro k h; simp at h
  | cons s l ih =>
    intro k h
    have e : sp (s :: l) = [.int .i64 s.1, .int .u8 (s.2.toNat : Int)] ++ sp l := by simp [sp]
    rw [e]
    cases k with
    | zero => simp
    | succ k =>
      have := ih k (by simp at h; omega)
      rw [List.getElem?_append_right (by simp; omega), List.getElem?_append_right (by simp; omega)]
      have e1 : (k + 1) * 2 - [Value.int .i64 s.1, .int .u8 (s.2.toNat : Int)].length = k * 2 := by simp; omega
      have e2 : (k + 1) * 2 + 1 - [Value.int .i64 s.1, .int .u8 (s.2.toNat : Int)].length = k * 2 + 1 := by simp; omega
      rw [e1, e2]
      simpa using this

/-- the bytes behind the spoils -/
def spoil1 (sure kept : Nat) (b : List UInt8) (s : Int × UInt8) : List UInt8 := if 0 ≤ s.1 ∧ s.1 < kept then b.set (sure + s.1.toNat) s.2 else b
def spoilF (sure kept : Nat) (l : List (Int × UInt8)) (b : List UInt8) : List UInt8 := l.foldl (spoil1 sure kept) b
theorem spoil1_length (sure kept : Nat) (b : List UInt8) (s : Int × UInt8) : (spoil1 sure kept b s).length = b.length := by unfold spoil1; split <;> simp
theorem spoilF_length (sure kept : Nat) (l : List (Int × UInt8)) : ∀ b, (spoilF sure kept l b).length = b.length := by
  induction l with
  | nil => intro b; rfl
  | cons s l ih => intro b; simp only [spoilF, List.foldl_cons] at ih ⊢; rw [ih, spoil1_length]
theorem spoilF_snoc (sure kept : Nat) (l : List (Int × UInt8)) (s : Int × UInt8) (b : List UInt8) : spoilF sure kept (l ++ [s]) b = spoil1 sure kept (spoilF sure kept l b) s := by simp [spoilF]
theorem spoil1_take (sure kept : Nat) (b : List UInt8) (s : Int × UInt8) : (spoil1 sure kept b s).take sure = b.take sure := by
  unfold spoil1
  split
  · rw [List.take_set_of_le (by omega)]
  · rfl
theorem spoilF_take (sure kept : Nat) (l : List (Int × UInt8)) : ∀ b, (spoilF sure kept l b).take sure = b.take sure := by
  induction l with
  | nil => intro b; rfl
  | cons s l ih => intro b; simp only [spoilF, List.foldl_cons] at ih ⊢; rw [ih, spoil1_take]

/-- how many of the others stay -/
def keptOf (keep : Int) (unsure : Nat) : Nat := (max 0 (min keep unsure)).toNat
theorem keptOf_le (keep : Int) (unsure : Nat) : keptOf keep unsure ≤ unsure := by unfold keptOf; omega

def UpRel (w : World) (p : Nat) (g : Option Nat) (cap sure kept : Nat) (b : List UInt8) (br : Bool) (l : List (Int × UInt8)) (F : Nat → Prop) (A : Option Addr) (i : Value) (wr : World) : Prop :=
  ∃ k : Nat, k ≤ l.length ∧ i = .int .i64 k ∧ Dk wr p g cap (spoilF sure kept (l.take k) b) sure br ∧ Fr (At2 p g) w wr ∧ Rd wr F 2 A l.length (sp l)

theorem up_nil (n : Int) (x : Value) (w : World) : Calls Try.prog 49 #[.pointer none, .int .i64 n, x] w fun e w' => e = .returned (.tuple #[]) ∧ w = w' := by
  go_enter Try.func49, Try.ntmps49
  go_wp2
  go_returns
  exact ⟨rfl, rfl⟩

set_option maxRecDepth 100000 in
set_option maxHeartbeats 1000000 in
theorem up_at (p : Nat) (g : Option Nat) (cap sure : Nat) (b : List UInt8) (br : Bool) (keep : Int) (F : Nat → Prop) (A : Option Addr) (c : Nat) (l : List (Int × UInt8)) (w : World) (h : Dk w p g cap b sure br)
    (hx : Rd w F 2 A l.length (sp l)) (hF : ∀ k, F k → k ≠ p ∧ g ≠ some k) (hl : l.length ≤ 1000000) (hls : ∀ s ∈ l, -9223372036854775808 ≤ s.1 ∧ s.1 ≤ 9223372036854775807) :
    Calls Try.prog 49 #[.pointer (some ⟨p, 0, none⟩), .int .i64 keep, .slice A l.length c] w
      (RetD w p g (.tuple #[]) cap ((spoilF sure (keptOf keep (b.length - sure)) l b).take (sure + keptOf keep (b.length - sure))) (sure + keptOf keep (b.length - sure)) false) := by
  have hkl := keptOf_le keep (b.length - sure)
  have hkd : (if (if ((b.length : Int) - sure) < keep then (b.length : Int) - sure else keep) < 0 then (0 : Int) else (if ((b.length : Int) - sure) < keep then (b.length : Int) - sure else keep)) = (keptOf keep (b.length - sure) : Int) := by
    have := h
    obtain ⟨v, _, _, _, _, _, h3⟩ := this
    unfold keptOf
    split <;> split <;> omega
  generalize keptOf keep (b.length - sure) = kept at hkl hkd ⊢
  have hd := h
  obtain ⟨v, hb, ho, hv, h1, h2, h3⟩ := h
  obtain ⟨X, k, rfl, _, _⟩ := ho.form
  have c1 := hb.cell 1
  have c2 := hb.cell 2
  simp at c1 c2
  have hsub : (b.length : Int) - sure ≤ 65536 := by omega
  have hsub0 : 0 ≤ (b.length : Int) - sure := by omega
  clear ho hv
  go_enter Try.func49, Try.ntmps49
  go_wp2_with fail
  go_quiet (fail)
  go_upto_region 2 with (fail)
  go_cut [7] (fun s7 wx => s7 = .int .i64 (kept : Int) ∧ wx = w.drewN nq)
  case first =>
    have HKD := Lib.hid hkd
    clear hkd
    go_wp2
    all_goals
      go_meet
      refine ⟨?_, rfl⟩
      have := HKD.out
      congr 1
      split at this <;> split at this <;> omega
  case rest =>
    obtain ⟨rfl, rfl⟩ := hcut
    have hstart : UpRel w p g cap sure kept b br l F A (.int .i64 0) (w.drewN nq) := ⟨0, Nat.zero_le _, rfl, by simpa [spoilF] using (show Dk (w.drewN nq) p g cap b sure br from hd), (Fr.refl _ _).drewN _, hx⟩
    clear hb hd c1 c2 hkd hx
    go_wp2_with fail
    go_loopw [28] (fun a wr => UpRel w p g cap sure kept b br l F A a wr) (fun a _ => l.length - (intOf a).toNat)
    case atStart => exact hstart
    case round =>
      clear hstart
      obtain ⟨j, hj, rfl, hdk, hfr, hrd⟩ := hrel
      have hb'l := spoilF_length sure kept (l.take j) b
      by_cases hlt : j < l.length
      · obtain ⟨ad, hA, _, hc⟩ := hrd.2 (by omega)
        subst hA
        obtain ⟨hg0, hg1⟩ := sp_get l j hlt
        have hc0 := hc _ _ hg0
        have hc1 := hc _ _ hg1
        have htk : l.take (j + 1) = l.take j ++ [l[j]] := List.take_succ_eq_append_getElem hlt
        have hbd := hls l[j] (List.getElem_mem hlt)
        obtain ⟨v, hb, ho, hv, k1, k2, k3⟩ := hdk
        have HTK := Lib.hid htk
        have HDK := Lib.hid (show Dk wr p g cap (spoilF sure kept (l.take j) b) sure br from ⟨v, hb, ho, hv, k1, k2, k3⟩)
        have HRD := Lib.hid hrd
        have HCC := Lib.hid hc
        clear htk hg0 hg1 hrd hc
        generalize l[j] = s at *
        obtain ⟨sa, sb⟩ := s
        simp only at hbd hc0 hc1
        rw [add_lits ad (j * 2) 1 (by omega)] at hc1
        have hpl := hb.lt
        have hgl : ∀ k, g = some k → k < wr.heap.size := HDK.out.ltg
        have hkeep : ∀ W, Fr (At2 p g) wr W → Rd W F 2 (some ad) l.length (sp l) := fun W hW => HRD.out.fr (by omega) hW (fun k hk _ hs => by
          rcases hs with hs | hs
          · exact (hF k hk).1 hs
          · exact (hF k hk).2 hs)
        have HKEEP := Lib.hid hkeep
        clear hkeep
        have hout : ¬ (0 ≤ sa ∧ sa < kept) → ∀ W, W = wr.alloc (.cells #[.int .i64 sa, .int .u8 (sb.toNat : Int)] 93) → UpRel w p g cap sure kept b br l F (some ad) (.int .i64 ((j : Int) + 1)) W := by
          rintro hno W rfl
          have hA : Fr (At2 p g) wr (wr.alloc (.cells #[.int .i64 sa, .int .u8 (sb.toNat : Int)] 93)) := (Fr.refl _ _).alloc _
          refine ⟨j + 1, by omega, by go_num, ?_, hfr.trans hA, HKEEP.out _ hA⟩
          rw [HTK.out, spoilF_snoc, spoil1, if_neg hno]
          exact HDK.out.fr (S := No) ((Fr.refl _ _).alloc _) (fun h => h) (fun _ _ h => h)
        have HOUT := Lib.hid hout
        clear hout
        by_cases hqq : 0 ≤ sa ∧ sa < kept
        · obtain ⟨hqq0, hqq1⟩ := hqq
          obtain ⟨n, rfl⟩ := Int.eq_ofNat_of_zero_le hqq0
          have hnk : n < kept := by omega
          have hpos : sure + n < (spoilF sure kept (l.take j) b).length := by omega
          obtain ⟨gg, kk, cur, rfl, hgg, hk1, hk2, _⟩ := ho.formPos (by omega)
          have hgg' : g = some gg := by rw [← hv]; rfl
          have c1 := hb.cell 1
          have c2 := hb.cell 2
          simp at c1 c2
          obtain ⟨hst, ⟨y, hy⟩, hfz⟩ := ho.store (sure + n) hpos (.int .u8 (sb.toNat : Int))
          have hggl := hgg.lt
          have hposi : (sure : Int) + n < (spoilF sure kept (l.take j) b).length := by omega
          have hne : gg ≠ p := by
            intro h
            subst h
            exact HDK.out.ne hgg'
          have hfin : UpRel w p g cap sure kept b br l F (some ad) (.int .i64 ((j : Int) + 1)) (((wr.setCell ⟨gg, sure + n, none⟩ (.int .u8 (sb.toNat : Int))).alloc (.cells #[.int .i64 (n : Int), .int .u8 (sb.toNat : Int)] 93)).drew) := by
            have hA : Fr (At2 p g) wr (((wr.setCell ⟨gg, sure + n, none⟩ (.int .u8 (sb.toNat : Int))).alloc (.cells #[.int .i64 (n : Int), .int .u8 (sb.toNat : Int)] 93)).drew) :=
              ((Fr.setCell (p := ⟨gg, sure + n, none⟩) (Fr.refl _ _) (fun _ => .inr hgg') _).alloc _).drew
            refine ⟨j + 1, by omega, by go_num, ?_, hfr.trans hA, HKEEP.out _ hA⟩
            rw [HTK.out, spoilF_snoc, spoil1, if_pos ⟨hqq0, hqq1⟩]
            have hset : bs ((spoilF sure kept (l.take j) b).set (sure + (n : Int).toNat) sb) = (bs (spoilF sure kept (l.take j) b)).set (sure + n) (.int .u8 (sb.toNat : Int)) := by simp [bs]
            have hbl : ((spoilF sure kept (l.take j) b).set (sure + (n : Int).toNat) sb).length = (spoilF sure kept (l.take j) b).length := by simp
            refine ⟨_, (hb.far (p := ⟨gg, sure + n, none⟩) (fun h => hne h.symm) _).alloc _, ?_, hv, k1, by rw [hbl]; exact k2, by rw [hbl]; exact k3⟩
            rw [hset, hbl]
            exact hst.alloc _
          have HFIN := Lib.hid hfin
          clear hfin hst ho hb HDK hv k1 k2 k3
          go_wp2_with fail
          go_region
          all_goals
            go_wp2
            exact ⟨HFIN.out, by simp [intOf]; omega⟩
        · have HO := Lib.hid hqq
          by_cases hqq0 : 0 ≤ sa
          · obtain ⟨n, rfl⟩ := Int.eq_ofNat_of_zero_le hqq0
            have hqq1 : ¬ (n : Int) < (kept : Int) := by omega
            clear hqq hb ho hv HDK k1 k2 k3
            go_wp2_with fail
            exact ⟨HOUT.out HO.out _ rfl, by simp [intOf]; omega⟩
          · clear hqq hb ho hv HDK k1 k2 k3
            go_wp2_with fail
            exact ⟨HOUT.out HO.out _ rfl, by simp [intOf]; omega⟩
      · obtain rfl : j = l.length := by omega
        rw [List.take_length] at hdk hb'l
        obtain ⟨N, hN⟩ : ∃ N, sure + kept = N := ⟨_, rfl⟩
        rw [hN]
        have hkc : (sure : Int) + kept = (N : Int) := by omega
        have c2 : wr.cell? ⟨p, 2, none⟩ = some (.int .i64 (sure : Int)) := by
          obtain ⟨v, hb, _⟩ := hdk
          have := hb.cell 2
          simpa using this
        have hk := keep_at p g cap sure N _ br wr hdk (by omega)
        have HN := Lib.hid hN
        clear hN
        have HK := Lib.hid hk
        clear hk
        go_wp2_with (go_at_call 65; refine HK.out.mono ?_; rintro e w1 ⟨rfl, g1, hd1, hf1, hn1⟩; (have c3 := hd1; obtain ⟨v1, hb1, ho1, hv1, k1, k2, k3⟩ := c3; have c3 := hb1.cell 3; have f3 := hb1.frozen 3; simp at c3))
        go_returns
        have hN := HN.out
        subst hN
        refine ⟨rfl, g1, ⟨v1, hb1.set_ 3 _, ho1.setCell (by rw [hv1]; exact hd1.ne) _, hv1, k1, k2, k3⟩, ?_, ?_⟩
        · refine (hfr.trans' hf1 (fun i hi _ => hi)).trans' (at2_set p g1 w1 3 _) (fun i hi hlt => ?_)
          rcases hi with hi | hi
          · exact .inl hi
          · rcases hn1 with rfl | ⟨k', rfl, hk'⟩
            · exact .inr hi
            · have := hfr.size
              injection hi with hi
              omega
        · exact (show Newer w.heap.size g g from .inl rfl).trans hn1 hfr.size
end Go.Proofs.Ytjfbpnhkdlbinaa
