/- clash.Swap. -/
import Derived.Test.YtlanhclgbkhdlaaGreatClashG0
import Derived.Deep.RegionWith
import Derived.Deep.RegionLaw
namespace Go.Proofs.YtlanhclgbkhdlaaGreat
open Go.RowKit Go.My Go.Maps Go.WideMaps
set_option linter.unusedSimpArgs false
set_option linter.unusedVariables false
attribute [local go_sem ↓] Go.wp_at_zero Go.wp_at_succ

def swapI (l : List Od) (i : Int) : Option (List Od) := if 0 ≤ i then swapO l i.toNat else none
def SwRet (w : World) (r : Option (List Od)) (e : Ending) (w' : World) : Prop := match r with
  | some m => RetN2 w m true e w'
  | none => e = .returned (.tuple #[.slice none 0 0, .bool false]) ∧ Fr No w w'
theorem swapO_none {l : List Od} {i : Nat} (h : l.length ≤ i + 1) : swapO l i = none := by
  unfold swapO
  rw [List.getElem?_eq_none h]
  cases l[i]? <;> rfl
theorem swapO_at {l : List Od} {i : Nat} (h : i + 1 < l.length) : swapO l i = if clashB l[i] l[i + 1] then none else some ((l.set i l[i + 1]).set (i + 1) l[i]) := by
  unfold swapO
  rw [List.getElem?_eq_getElem h, List.getElem?_eq_getElem (show i < l.length by omega)]
set_option maxRecDepth 100000 in
set_option maxHeartbeats 2000000 in
theorem swapC_any (w : World) (F : Nat → Prop) (A : Option Addr) (c : Nat) (l : List Od) (i : Int) (hl : Ls w F A c l) (hi : In64 i) :
    Calls Tryz.prog 10 #[.slice A l.length c, .int .i64 i] w (SwRet w (swapI l i)) := by
  have hn := hl.n
  unfold In64 at hi
  by_cases h0 : i < 0
  · have e : swapI l i = none := by unfold swapI; rw [if_neg (by omega)]
    rw [e]
    show Calls _ _ _ _ fun e w' => e = .returned (.tuple #[.slice none 0 0, .bool false]) ∧ Fr No w w'
    clear hl e
    generalize l.length = n at *
    have hd : decide (i < 0) = true := decide_eq_true h0
    go_enter Tryz.func10, Tryz.ntmps10
    go_upto_region 1 with (fail)
    go_quiet (fail)
    go_wp2
    go_ret2
    exact ⟨rfl, (Fr.refl _ _).drewN _⟩
  by_cases h1 : (l.length : Int) - 1 ≤ i
  · have e : swapI l i = none := by unfold swapI; rw [if_pos (by omega), swapO_none (by omega)]
    rw [e]
    show Calls _ _ _ _ fun e w' => e = .returned (.tuple #[.slice none 0 0, .bool false]) ∧ Fr No w w'
    clear hl e
    generalize l.length = n at *
    have hd : decide (i < 0) = false := decide_eq_false h0
    have hd2 : decide ((n : Int) - 1 ≤ i) = true := decide_eq_true h1
    go_enter Tryz.func10, Tryz.ntmps10
    go_upto_region 1 with (fail)
    go_quiet (fail)
    go_wp2
    go_ret2
    exact ⟨rfl, (Fr.refl _ _).drewN _⟩
  obtain ⟨k, rfl⟩ : ∃ k : Nat, i = (k : Int) := ⟨i.toNat, by omega⟩
  have hk : k + 1 < l.length := by omega
  have e : swapI l (k : Int) = swapO l k := by unfold swapI; rw [if_pos (by omega), Int.toNat_natCast]
  rw [e, swapO_at hk]
  have HCP : Hid (∀ W, Fr No w W → Calls Tryz.prog 27 #[.slice A l.length c, .func (.func 28) #[] #[]] W (RetN W l)) := fun W hW => copyAll_any W F A c l (hl.no hW).ods hl.n hl.s
  obtain ⟨ad, va, rfl, _, oka, ga, La, q0, q1, q2, q3, q4, q5, q6, q7, q8, q9⟩ := hl.ods.at_ k (by omega)
  obtain ⟨bd, vb, he, _, okb, gb, Lb, r0, r1, r2, r3, r4, r5, r6, r7, r8, r9⟩ := hl.ods.at_ (k + 1) hk
  injection he with he
  subst he
  obtain ⟨aA, ac, rfl, -, -⟩ := La.form
  obtain ⟨bA, bc, rfl, -, -⟩ := Lb.form
  have HC : Hid (∀ W, Fr No w W → Calls Tryz.prog 26 #[l[k].val (.slice aA l[k].legs.length ac), l[k + 1].val (.slice bA l[k + 1].legs.length bc)] W fun e w' => e = .returned (.bool (clashB l[k] l[k + 1])) ∧ Fr No W w') := fun W hW => clash_any _ _ l[k] l[k + 1] _ _ W (La.no hW) (Lb.no hW) (hl.s _ (List.getElem_mem (by omega))) (hl.s _ (List.getElem_mem hk))
  unfold Od.val Od.cs at HC
  simp only [List.toArray] at HC
  have hne : Nonempty (WIn (Fr No w)) := ⟨⟨_, Fr.refl _ _⟩⟩
  have a0 := fun x : WIn (Fr No w) => x.h.cell_some q0 (fun h => h)
  have b0 := fun x : WIn (Fr No w) => x.h.cell_some r0 (fun h => h)
  have a1 := fun x : WIn (Fr No w) => x.h.cell_some q1 (fun h => h)
  have b1 := fun x : WIn (Fr No w) => x.h.cell_some r1 (fun h => h)
  have a2 := fun x : WIn (Fr No w) => x.h.cell_some q2 (fun h => h)
  have b2 := fun x : WIn (Fr No w) => x.h.cell_some r2 (fun h => h)
  have a3 := fun x : WIn (Fr No w) => x.h.cell_some q3 (fun h => h)
  have b3 := fun x : WIn (Fr No w) => x.h.cell_some r3 (fun h => h)
  have a4 := fun x : WIn (Fr No w) => x.h.cell_some q4 (fun h => h)
  have b4 := fun x : WIn (Fr No w) => x.h.cell_some r4 (fun h => h)
  have a5 := fun x : WIn (Fr No w) => x.h.cell_some q5 (fun h => h)
  have b5 := fun x : WIn (Fr No w) => x.h.cell_some r5 (fun h => h)
  have a6 := fun x : WIn (Fr No w) => x.h.cell_some q6 (fun h => h)
  have b6 := fun x : WIn (Fr No w) => x.h.cell_some r6 (fun h => h)
  have a7 := fun x : WIn (Fr No w) => x.h.cell_some q7 (fun h => h)
  have b7 := fun x : WIn (Fr No w) => x.h.cell_some r7 (fun h => h)
  have a8 := fun x : WIn (Fr No w) => x.h.cell_some q8 (fun h => h)
  have b8 := fun x : WIn (Fr No w) => x.h.cell_some r8 (fun h => h)
  have a9 := fun x : WIn (Fr No w) => x.h.cell_some q9 (fun h => h)
  have b9 := fun x : WIn (Fr No w) => x.h.cell_some r9 (fun h => h)
  clear q0 r0 q1 r1 q2 r2 q3 r3 q4 r4 q5 r5 q6 r6 q7 r7 q8 r8 q9 r9 La Lb oka okb ga gb e
  have hd : decide ((k : Int) < 0) = false := decide_eq_false (by omega)
  have hd2 : decide ((l.length : Int) - 1 ≤ (k : Int)) = false := decide_eq_false (by omega)
  rcases (Bool.eq_false_or_eq_true (clashB l[k] l[k + 1])) with hcl | hcl
  · rw [if_pos hcl]
    show Calls _ _ _ _ fun e w' => e = .returned (.tuple #[.slice none 0 0, .bool false]) ∧ Fr No w w'
    go_enter Tryz.func10, Tryz.ntmps10
    go_upto_region 1 with (fail)
    refine wp_region_in (D := Fr No w) (by kernel_rfl) (by kernel_rfl) (Fr.refl _ _).drew ?_
    repeat (go_big_quiet_step ((first | (go_at_call 26; refine Calls.in_of (v := .bool true) _ fun W hW => ?_; have h := HC.out W hW; rw [hcl] at h; (with_reducible refine h.mono ?_); exact fun _ _ h => ⟨h.1, Fr.trans hW h.2⟩))))
    refine wpQuiet_nil ?_
    rintro _ ⟨⟨wq, hq⟩, rfl⟩
    go_wp2
    go_ret2
    exact ⟨rfl, hq⟩
  · rw [if_neg (by rw [hcl]; decide)]
    show Calls _ _ _ _ (RetN2 w ((l.set k l[k + 1]).set (k + 1) l[k]) true)
    generalize hml : (l.set k l[k + 1]).set (k + 1) l[k] = ml
    go_enter Tryz.func10, Tryz.ntmps10
    go_upto_region 1 with (fail)
    refine wp_region_in (D := Fr No w) (by kernel_rfl) (by kernel_rfl) (Fr.refl _ _).drew ?_
    repeat (go_big_quiet_step ((first | (go_at_call 26; refine Calls.in_of (v := .bool false) _ fun W hW => ?_; have h := HC.out W hW; rw [hcl] at h; (with_reducible refine h.mono ?_); exact fun _ _ h => ⟨h.1, Fr.trans hW h.2⟩))))
    refine wpQuiet_nil ?_
    rintro _ ⟨⟨wq, hq⟩, rfl⟩
    clear a0 a1 a2 a3 a4 a5 a6 a7 a8 a9 b0 b1 b2 b3 b4 b5 b6 b7 b8 b9 HC hne
    go_wp2_with fail
    (with_reducible refine (HCP.out _ hq).mono ?_)
    rintro e w2 ⟨A2, c2, rfl, ho2, hf2, hn2⟩
    have hg2 : ∃ g, A2 = some ⟨g, 0, none⟩ := by
      obtain ⟨cells, ⟨_, hown2⟩, _⟩ := ho2
      rcases hown2 with ⟨_, h0⟩ | ⟨g, cap, cur, hv, _⟩
      · omega
      injection hv with hv1
      exact ⟨g, hv1⟩
    obtain ⟨g, rfl⟩ := hg2
    have hfz : ∀ i, w2.frozen? ⟨g, i, none⟩ = false := by
      obtain ⟨cells, ⟨_, hown2⟩, _⟩ := ho2
      rcases hown2 with ⟨_, h0⟩ | ⟨g', cap, cur, hv, hg, _⟩
      · omega
      injection hv with hv1
      injection hv1 with hv1
      injection hv1 with hv1 _
      subst hv1
      exact fun i => Blk.frozen (t := 31) hg i
    obtain ⟨va, oka, ga, La, hga⟩ := ho2.at_ k (by omega)
    obtain ⟨vb, okb, gb, Lb, hgb⟩ := ho2.at_ (k + 1) hk
    obtain ⟨aA2, ac2, rfl, -, -⟩ := La.form
    obtain ⟨bA2, bc2, rfl, -, -⟩ := Lb.form
    have HFN : Hid (OwnN w.heap.size (((((((((((((((((((((w2.setCell ⟨g, k * 10, none⟩ (.int .i64 l[k + 1].cl)).setCell ⟨g, k * 10 + 1, none⟩ (.int .i64 l[k + 1].sq)).setCell ⟨g, k * 10 + 2, none⟩ (.int .i64 l[k + 1].kd)).setCell ⟨g, k * 10 + 3, none⟩ (.string l[k + 1].acct)).setCell ⟨g, k * 10 + 4, none⟩ (.string l[k + 1].peer)).setCell ⟨g, k * 10 + 5, none⟩ (.int .i64 l[k + 1].sum)).setCell ⟨g, k * 10 + 6, none⟩ (.slice bA2 l[k + 1].legs.length bc2)).setCell ⟨g, k * 10 + 7, none⟩ (.int .i64 l[k + 1].per)).setCell ⟨g, k * 10 + 8, none⟩ (.int .i64 l[k + 1].hold)).setCell ⟨g, k * 10 + 9, none⟩ (.string l[k + 1].note)).setCell ⟨g, (k + 1) * 10, none⟩ (.int .i64 l[k].cl)).setCell ⟨g, (k + 1) * 10 + 1, none⟩ (.int .i64 l[k].sq)).setCell ⟨g, (k + 1) * 10 + 2, none⟩ (.int .i64 l[k].kd)).setCell ⟨g, (k + 1) * 10 + 3, none⟩ (.string l[k].acct)).setCell ⟨g, (k + 1) * 10 + 4, none⟩ (.string l[k].peer)).setCell ⟨g, (k + 1) * 10 + 5, none⟩ (.int .i64 l[k].sum)).setCell ⟨g, (k + 1) * 10 + 6, none⟩ (.slice aA2 l[k].legs.length ac2)).setCell ⟨g, (k + 1) * 10 + 7, none⟩ (.int .i64 l[k].per)).setCell ⟨g, (k + 1) * 10 + 8, none⟩ (.int .i64 l[k].hold)).setCell ⟨g, (k + 1) * 10 + 9, none⟩ (.string l[k].note)).drew) (.slice (some ⟨g, 0, none⟩) l.length c2) ml ∧ Fr No w (((((((((((((((((((((w2.setCell ⟨g, k * 10, none⟩ (.int .i64 l[k + 1].cl)).setCell ⟨g, k * 10 + 1, none⟩ (.int .i64 l[k + 1].sq)).setCell ⟨g, k * 10 + 2, none⟩ (.int .i64 l[k + 1].kd)).setCell ⟨g, k * 10 + 3, none⟩ (.string l[k + 1].acct)).setCell ⟨g, k * 10 + 4, none⟩ (.string l[k + 1].peer)).setCell ⟨g, k * 10 + 5, none⟩ (.int .i64 l[k + 1].sum)).setCell ⟨g, k * 10 + 6, none⟩ (.slice bA2 l[k + 1].legs.length bc2)).setCell ⟨g, k * 10 + 7, none⟩ (.int .i64 l[k + 1].per)).setCell ⟨g, k * 10 + 8, none⟩ (.int .i64 l[k + 1].hold)).setCell ⟨g, k * 10 + 9, none⟩ (.string l[k + 1].note)).setCell ⟨g, (k + 1) * 10, none⟩ (.int .i64 l[k].cl)).setCell ⟨g, (k + 1) * 10 + 1, none⟩ (.int .i64 l[k].sq)).setCell ⟨g, (k + 1) * 10 + 2, none⟩ (.int .i64 l[k].kd)).setCell ⟨g, (k + 1) * 10 + 3, none⟩ (.string l[k].acct)).setCell ⟨g, (k + 1) * 10 + 4, none⟩ (.string l[k].peer)).setCell ⟨g, (k + 1) * 10 + 5, none⟩ (.int .i64 l[k].sum)).setCell ⟨g, (k + 1) * 10 + 6, none⟩ (.slice aA2 l[k].legs.length ac2)).setCell ⟨g, (k + 1) * 10 + 7, none⟩ (.int .i64 l[k].per)).setCell ⟨g, (k + 1) * 10 + 8, none⟩ (.int .i64 l[k].hold)).setCell ⟨g, (k + 1) * 10 + 9, none⟩ (.string l[k].note)).drew)) := by
      rw [← hml]
      have hsw := (hq : Fr No w _).size
      have hgw : w.heap.size ≤ g := Nat.le_trans hsw (hn2 g rfl)
      obtain ⟨p1, f1⟩ := ho2.put1 (k := k) (o := l[k + 1]) (vo := .slice bA2 l[k + 1].legs.length bc2) (by omega) okb gb Lb
      have hS : ∀ {B0 : Nat} (j : Nat), New B0 w2 (some g) j → j < w2.heap.size → ¬ At1 g j := fun j hj _ e => hj.2.2 (by rw [show j = g from e])
      have La2 := (La.frS f1 hS).more (G := New _ _ (some g)) fun j hj => ⟨hj.1, Nat.lt_of_lt_of_le hj.2.1 f1.size, hj.2.2⟩
      obtain ⟨p2, f2⟩ := p1.put1 (k := k + 1) (o := l[k]) (vo := .slice aA2 l[k].legs.length ac2) (by rw [List.length_set]; exact hk) oka ga La2
      have f3 : Fr (At1 g) w2 (((((((((((((((((((((w2.setCell ⟨g, k * 10, none⟩ (.int .i64 l[k + 1].cl)).setCell ⟨g, k * 10 + 1, none⟩ (.int .i64 l[k + 1].sq)).setCell ⟨g, k * 10 + 2, none⟩ (.int .i64 l[k + 1].kd)).setCell ⟨g, k * 10 + 3, none⟩ (.string l[k + 1].acct)).setCell ⟨g, k * 10 + 4, none⟩ (.string l[k + 1].peer)).setCell ⟨g, k * 10 + 5, none⟩ (.int .i64 l[k + 1].sum)).setCell ⟨g, k * 10 + 6, none⟩ (.slice bA2 l[k + 1].legs.length bc2)).setCell ⟨g, k * 10 + 7, none⟩ (.int .i64 l[k + 1].per)).setCell ⟨g, k * 10 + 8, none⟩ (.int .i64 l[k + 1].hold)).setCell ⟨g, k * 10 + 9, none⟩ (.string l[k + 1].note)).setCell ⟨g, (k + 1) * 10, none⟩ (.int .i64 l[k].cl)).setCell ⟨g, (k + 1) * 10 + 1, none⟩ (.int .i64 l[k].sq)).setCell ⟨g, (k + 1) * 10 + 2, none⟩ (.int .i64 l[k].kd)).setCell ⟨g, (k + 1) * 10 + 3, none⟩ (.string l[k].acct)).setCell ⟨g, (k + 1) * 10 + 4, none⟩ (.string l[k].peer)).setCell ⟨g, (k + 1) * 10 + 5, none⟩ (.int .i64 l[k].sum)).setCell ⟨g, (k + 1) * 10 + 6, none⟩ (.slice aA2 l[k].legs.length ac2)).setCell ⟨g, (k + 1) * 10 + 7, none⟩ (.int .i64 l[k].per)).setCell ⟨g, (k + 1) * 10 + 8, none⟩ (.int .i64 l[k].hold)).setCell ⟨g, (k + 1) * 10 + 9, none⟩ (.string l[k].note)).drew) := (f1.trans f2).drew
      generalize ((((((((((((((((((((w2.setCell ⟨g, k * 10, none⟩ (.int .i64 l[k + 1].cl)).setCell ⟨g, k * 10 + 1, none⟩ (.int .i64 l[k + 1].sq)).setCell ⟨g, k * 10 + 2, none⟩ (.int .i64 l[k + 1].kd)).setCell ⟨g, k * 10 + 3, none⟩ (.string l[k + 1].acct)).setCell ⟨g, k * 10 + 4, none⟩ (.string l[k + 1].peer)).setCell ⟨g, k * 10 + 5, none⟩ (.int .i64 l[k + 1].sum)).setCell ⟨g, k * 10 + 6, none⟩ (.slice bA2 l[k + 1].legs.length bc2)).setCell ⟨g, k * 10 + 7, none⟩ (.int .i64 l[k + 1].per)).setCell ⟨g, k * 10 + 8, none⟩ (.int .i64 l[k + 1].hold)).setCell ⟨g, k * 10 + 9, none⟩ (.string l[k + 1].note)).setCell ⟨g, (k + 1) * 10, none⟩ (.int .i64 l[k].cl)).setCell ⟨g, (k + 1) * 10 + 1, none⟩ (.int .i64 l[k].sq)).setCell ⟨g, (k + 1) * 10 + 2, none⟩ (.int .i64 l[k].kd)).setCell ⟨g, (k + 1) * 10 + 3, none⟩ (.string l[k].acct)).setCell ⟨g, (k + 1) * 10 + 4, none⟩ (.string l[k].peer)).setCell ⟨g, (k + 1) * 10 + 5, none⟩ (.int .i64 l[k].sum)).setCell ⟨g, (k + 1) * 10 + 6, none⟩ (.slice aA2 l[k].legs.length ac2)).setCell ⟨g, (k + 1) * 10 + 7, none⟩ (.int .i64 l[k].per)).setCell ⟨g, (k + 1) * 10 + 8, none⟩ (.int .i64 l[k].hold)).setCell ⟨g, (k + 1) * 10 + 9, none⟩ (.string l[k].note)) = wz at *
      obtain ⟨cells, hown, hE⟩ := p2
      refine ⟨⟨cells, hown, each_imp hE fun cs o ⟨v, k1, k2, k3, k4⟩ => ⟨v, k1, k2, k3, LgS.more (F := New _ wz (some g)) k4 fun j hj => ⟨Nat.le_trans hsw hj.1, hj.2.1, hj.2.2⟩⟩⟩, (hq.trans hf2).trans' f3 fun i hi hlt => ?_⟩
      have hi : i = g := hi
      omega
    have HWQ : Hid (Fr No w w2) := hq.trans hf2
    have hk2 : (k : Int) + 1 ≤ 1000000 := by omega
    have hwr : IntKind.i64.wrap ((k : Int) + 1) = (k : Int) + 1 := IntWalk.i64_in _ (by omega)
    have hbd : (k : Int) + 1 < (l.length : Int) := by omega
    have hkl : k < l.length := by omega
    have hbz : (0 : Int) ≤ (k : Int) + 1 := by omega
    have htn : ((k : Int) + 1).toNat = k + 1 := by omega
    have q0 := hga 0 _ (by omega) rfl
    have r0 := hgb 0 _ (by omega) rfl
    have q1 := hga 1 _ (by omega) rfl
    have r1 := hgb 1 _ (by omega) rfl
    have q2 := hga 2 _ (by omega) rfl
    have r2 := hgb 2 _ (by omega) rfl
    have q3 := hga 3 _ (by omega) rfl
    have r3 := hgb 3 _ (by omega) rfl
    have q4 := hga 4 _ (by omega) rfl
    have r4 := hgb 4 _ (by omega) rfl
    have q5 := hga 5 _ (by omega) rfl
    have r5 := hgb 5 _ (by omega) rfl
    have q6 := hga 6 _ (by omega) rfl
    have r6 := hgb 6 _ (by omega) rfl
    have q7 := hga 7 _ (by omega) rfl
    have r7 := hgb 7 _ (by omega) rfl
    have q8 := hga 8 _ (by omega) rfl
    have r8 := hgb 8 _ (by omega) rfl
    have q9 := hga 9 _ (by omega) rfl
    have r9 := hgb 9 _ (by omega) rfl
    rw [Nat.add_zero] at q0 r0
    have HML : Hid (ml.length = l.length) := by show _ = _; rw [← hml, List.length_set, List.length_set]
    have HN2 : Hid (∀ j, (Value.slice (some ⟨g, 0, none⟩) l.length c2).ownBlock = some j → w.heap.size ≤ j) := fun j hj => Nat.le_trans (hq : Fr No w _).size (hn2 j hj)
    clear hd hd2 hl HCP La Lb hga hgb oka okb ga gb ho2 hq hf2 hn2 hcl hml
    go_upto_region 4 with (fail)
    go_region_law (fail)
    all_goals
      clear q0 q1 q2 q3 q4 q5 q6 q7 q8 q9 r0 r1 r2 r3 r4 r5 r6 r7 r8 r9
      go_wp2
      go_ret2
      exact ⟨_, _, by rw [HML.out]; rfl, by rw [HML.out]; exact HFN.out.1, HFN.out.2, by rw [HML.out]; exact HN2.out⟩
end Go.Proofs.YtlanhclgbkhdlaaGreat
