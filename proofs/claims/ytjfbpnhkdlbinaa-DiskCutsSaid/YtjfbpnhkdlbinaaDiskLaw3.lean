/- What a step of a script does. -/
import Derived.Test.YtjfbpnhkdlbinaaDiskLaw2
namespace Go.Proofs.Ytjfbpnhkdlbinaa
open Go.RowKit Go.My
set_option linter.unusedSimpArgs false
set_option linter.unusedVariables false

structure DSt where
  b : List UInt8
  sure : Nat
  br : Bool

def upD (s : DSt) (n : Int) (l : List (Int × UInt8)) : DSt :=
  { b := (spoilF s.sure (keptOf n (s.b.length - s.sure)) l s.b).take (s.sure + keptOf n (s.b.length - s.sure)), sure := s.sure + keptOf n (s.b.length - s.sure), br := false }
def appD (cap : Nat) (s : DSt) (x : List UInt8) : DSt := { s with b := if appE s.br cap s.b.length x.length = 0 then s.b ++ x else s.b }
def syncD (s : DSt) : DSt := { s with sure := if s.br then s.sure else s.b.length }
def cutD (s : DSt) (n : Int) : DSt := { s with b := if cutE s.br n s.b.length = 0 then s.b.take n.toNat else s.b, sure := if cutE s.br n s.b.length = 0 then n.toNat else s.sure }

/-- what a step tells, and what it leaves -/
def doesE (cap : Nat) (s : DSt) (o : OpD) : Nat :=
  if kindD o.kind = 0 then appE s.br cap s.b.length o.b.length else if kindD o.kind = 1 then (if s.br then 14 else 0) else if kindD o.kind = 2 then cutE s.br o.n s.b.length else 0
def doesD (cap : Nat) (s : DSt) (o : OpD) : DSt :=
  if kindD o.kind = 0 then appD cap s o.b else if kindD o.kind = 1 then syncD s else if kindD o.kind = 2 then cutD s o.n else if kindD o.kind = 3 then { s with br := true } else upD s o.n (spoilsD o)

def DkS (w : World) (p : Nat) (g : Option Nat) (cap : Nat) (s : DSt) : Prop := Dk w p g cap s.b s.sure s.br
def RetDS (w : World) (p : Nat) (g : Option Nat) (v : Value) (cap : Nat) (s : DSt) (e : Ending) (w' : World) : Prop :=
  e = .returned v ∧ ∃ g', DkS w' p g' cap s ∧ Fr (At2 p g) w w' ∧ Newer w.heap.size g g'

theorem RetDS.lift {w w1 : World} {p : Nat} {g : Option Nat} {v v' : Value} {cap : Nat} {s : DSt} {e : Ending} {w' : World} (hf : Fr No w w1) (h : RetDS w1 p g v cap s e w') : e = .returned v ∧ RetDS w p g v' cap s (.returned v') w' := by
  obtain ⟨he, g', hd, hf', hn⟩ := h
  refine ⟨he, rfl, g', hd, (hf.mono fun _ _ h => False.elim h).trans hf', ?_⟩
  exact (show Newer w.heap.size g g from .inl rfl).trans hn hf.size

theorem kind_is (cs : List Value) (o : OpD) (B : Nat) (w : World) (h : RdOp w B cs o) (j : Int) (hj : kindD o.kind = j) :
    Calls Try.prog 44 #[.agg cs.toArray] w fun e w' => e = .returned (.int .i64 j) ∧ Below w.heap.size w w' := by
  obtain ⟨A1, c1, A2, c2, A3, c3, rfl, _, _, _, _, _, _, hk, _, _⟩ := h
  subst hj
  exact kind_any o.kind o.n _ _ _ w hk.1 hk.2

set_option maxHeartbeats 1000000 in
theorem does_at (p : Nat) (g : Option Nat) (cap : Nat) (s : DSt) (cs : List Value) (o : OpD) (B : Nat) (w : World) (h : DkS w p g cap s) (ho : RdOp w B cs o) (hB : B ≤ p) (hg : ∀ k, g = some k → B ≤ k) :
    Calls Try.prog 47 #[.pointer (some ⟨p, 0, none⟩), .agg cs.toArray] w (RetDS w p g (.int .i64 (doesE cap s o : Int)) cap (doesD cap s o)) := by
  have hop := ho
  have hpl : p < w.heap.size := Dk.lt h
  have hBw : B ≤ w.heap.size := by omega
  have hbd := kindD_bd o.kind
  have hkd : kindD o.kind = 0 ∨ kindD o.kind = 1 ∨ kindD o.kind = 2 ∨ kindD o.kind = 3 ∨ kindD o.kind = 4 := by omega
  have hkc := fun j hj W (hW : RdOp W B cs o) => kind_is cs o B W hW j hj
  obtain ⟨A1, c1, A2, c2, A3, c3, rfl, r1, r2, r3, ⟨l1, m1⟩, l2, l3, hki, hni, hat⟩ := ho
  have hb9 : o.b.length ≤ 9223372036854775807 := by simp only [maxLen] at m1; omega
  obtain ⟨W1, hW1⟩ : ∃ W1, W1 = w.alloc (.cells #[.int .i64 o.kind, .int .i64 o.n, .slice A1 o.b.length c1, .slice A2 o.at_.length c2, .slice A3 o.by_.length c3] 68) := ⟨_, rfl⟩
  have hbox : Blk W1 w.heap.size 68 #[.int .i64 o.kind, .int .i64 o.n, .slice A1 o.b.length c1, .slice A2 o.at_.length c2, .slice A3 o.by_.length c3] := by rw [hW1]; exact Blk.new _ _ _
  have hfw : Fr No w W1 := by rw [hW1]; exact (Fr.refl _ _).alloc _
  have hcl : ∀ i : Nat, W1.cell? ⟨w.heap.size, i, none⟩ = #[Value.int .i64 o.kind, .int .i64 o.n, .slice A1 o.b.length c1, .slice A2 o.at_.length c2, .slice A3 o.by_.length c3][i]? := fun i => hbox.cell i
  have hbox2 : ∀ W2, Below W1.heap.size W1 W2 → Fr No w W2 ∧ DkS W2 p g cap s ∧ Blk W2 w.heap.size 68 #[.int .i64 o.kind, .int .i64 o.n, .slice A1 o.b.length c1, .slice A2 o.at_.length c2, .slice A3 o.by_.length c3] ∧ RdOp W2 B [.int .i64 o.kind, .int .i64 o.n, .slice A1 o.b.length c1, .slice A2 o.at_.length c2, .slice A3 o.by_.length c3] o := by
    intro W2 hb
    have hf : Fr No w W2 := hfw.trans (Fr.of_below hb No)
    exact ⟨hf, Dk.fr h hf (fun h => h) (fun _ _ h => h), hbox.fr (Fr.of_below hb No) (fun h => h), hop.below (hf.belowNo.mono hBw)⟩
  have hop1 := (hbox2 W1 (Below.refl _ _)).2.2.2
  have HOP1 := Lib.hid hop1
  have HB2 := Lib.hid hbox2
  have HKC := Lib.hid hkc
  have c0 := hcl 0
  have c1' := hcl 1
  have c2' := hcl 2
  have c3' := hcl 3
  have c4' := hcl 4
  simp at c0 c1' c2' c3' c4'
  clear hop1 hbox2 hkc hcl hbox
  subst hW1
  clear c0 c1' c2' c3' c4'
  rcases hkd with hk | hk | hk | hk | hk
  · have HK := Lib.hid hk
    unfold doesE doesD
    simp only [hk, if_true]
    clear hk
    have HK0 := Lib.hid (HKC.out 0 HK.out _ HOP1.out)
    clear HKC r1 r2 r3 h hop hfw
    go_enter Try.func47, Try.ntmps47
    go_wp2_with fail
    refine HK0.out.mono ?_
    rintro e w2 ⟨rfl, hb2⟩
    obtain ⟨hf2, hd2, hbx2, hop2⟩ := HB2.out w2 hb2
    have c0 := hbx2.cell 0
    have c1' := hbx2.cell 1
    have c2' := hbx2.cell 2
    have c3' := hbx2.cell 3
    have c4' := hbx2.cell 4
    simp at c0 c1' c2' c3' c4'
    clear HK0 HB2 hb2 hbx2
    have hcall := append_at p g cap s.sure s.b s.br _ A1 c1 o.b w2 hd2 (by obtain ⟨_, _, _, _, _, _, he, q1, _⟩ := hop2; simp only [List.cons.injEq, Value.slice.injEq, and_true, true_and] at he; obtain ⟨⟨rfl, rfl⟩, _⟩ := he; exact q1) hb9
    have HC := Lib.hid hcall
    clear hcall hd2 hop2
    go_wp2_with (go_at_call 53; refine HC.out.mono ?_; rintro e w3 ⟨rfl, hr3⟩)
    go_ret
    exact (RetDS.lift (p := p) (g := g) (cap := cap) (s := appD cap s o.b) (v := .int .i64 (appE s.br cap s.b.length o.b.length : Int)) hf2 ⟨rfl, hr3⟩).2
  · have HK := Lib.hid hk
    unfold doesE doesD
    simp only [hk, if_true, if_neg (show ¬ (1 : Int) = 0 by omega)]
    clear hk
    have hsE : ((if s.br then 14 else 0 : Nat) : Int) = (if s.br then 14 else 0 : Int) := by split <;> rfl
    rw [hsE]
    generalize hen : (if s.br then 14 else 0 : Int) = en
    have HEN := Lib.hid hen
    clear hen hsE
    have HK0 := Lib.hid (HKC.out 1 HK.out _ HOP1.out)
    clear HKC r1 r2 r3 h hop hfw
    go_enter Try.func47, Try.ntmps47
    go_wp2_with fail
    refine HK0.out.mono ?_
    rintro e w2 ⟨rfl, hb2⟩
    obtain ⟨hf2, hd2, hbx2, hop2⟩ := HB2.out w2 hb2
    have c0 := hbx2.cell 0
    have c1' := hbx2.cell 1
    have c2' := hbx2.cell 2
    have c3' := hbx2.cell 3
    have c4' := hbx2.cell 4
    simp at c0 c1' c2' c3' c4'
    clear HK0 HB2 hb2 hbx2
    have hcall := sync_at p g cap s.sure s.b s.br w2 hd2
    rw [HEN.out] at hcall
    have HC := Lib.hid hcall
    clear hcall hd2 hop2
    go_wp2_with (go_at_call 54; refine HC.out.mono ?_; rintro e w3 ⟨rfl, hr3⟩)
    go_ret
    exact (RetDS.lift (p := p) (g := g) (cap := cap) (s := syncD s) (v := .int .i64 en) hf2 ⟨rfl, hr3⟩).2
  · have HK := Lib.hid hk
    unfold doesE doesD
    simp only [hk, if_true, if_neg (show ¬ (2 : Int) = 0 by omega), if_neg (show ¬ (2 : Int) = 1 by omega)]
    clear hk
    have HK0 := Lib.hid (HKC.out 2 HK.out _ HOP1.out)
    clear HKC r1 r2 r3 h hop hfw
    go_enter Try.func47, Try.ntmps47
    go_wp2_with fail
    refine HK0.out.mono ?_
    rintro e w2 ⟨rfl, hb2⟩
    obtain ⟨hf2, hd2, hbx2, hop2⟩ := HB2.out w2 hb2
    have c0 := hbx2.cell 0
    have c1' := hbx2.cell 1
    have c2' := hbx2.cell 2
    have c3' := hbx2.cell 3
    have c4' := hbx2.cell 4
    simp at c0 c1' c2' c3' c4'
    clear HK0 HB2 hb2 hbx2
    have hcall := cut_at p g cap s.sure o.n s.b s.br w2 hd2
    have HC := Lib.hid hcall
    clear hcall hd2 hop2
    go_wp2_with (go_at_call 52; refine HC.out.mono ?_; rintro e w3 ⟨rfl, hr3⟩)
    go_ret
    exact (RetDS.lift (p := p) (g := g) (cap := cap) (s := cutD s o.n) (v := .int .i64 (cutE s.br o.n s.b.length : Int)) hf2 ⟨rfl, hr3⟩).2
  · have HK := Lib.hid hk
    unfold doesE doesD
    simp only [hk, if_true, if_neg (show ¬ (3 : Int) = 0 by omega), if_neg (show ¬ (3 : Int) = 1 by omega), if_neg (show ¬ (3 : Int) = 2 by omega)]
    clear hk
    have HK0 := Lib.hid (HKC.out 3 HK.out _ HOP1.out)
    clear HKC r1 r2 r3 h hop hfw
    go_enter Try.func47, Try.ntmps47
    go_wp2_with fail
    refine HK0.out.mono ?_
    rintro e w2 ⟨rfl, hb2⟩
    obtain ⟨hf2, hd2, hbx2, hop2⟩ := HB2.out w2 hb2
    have c0 := hbx2.cell 0
    have c1' := hbx2.cell 1
    have c2' := hbx2.cell 2
    have c3' := hbx2.cell 3
    have c4' := hbx2.cell 4
    simp at c0 c1' c2' c3' c4'
    clear HK0 HB2 hb2 hbx2
    have hcall := break_at p g cap s.sure s.b s.br w2 hd2
    have HC := Lib.hid hcall
    clear hcall hd2 hop2
    go_wp2_with (go_at_call 48; refine HC.out.mono ?_; rintro e w3 ⟨rfl, hr3⟩)
    go_ret
    exact (RetDS.lift (p := p) (g := g) (cap := cap) (s := { s with br := true }) (v := .tuple #[]) hf2 ⟨rfl, hr3⟩).2
  · have HK := Lib.hid hk
    unfold doesE doesD
    simp only [hk, if_neg (show ¬ (4 : Int) = 0 by omega), if_neg (show ¬ (4 : Int) = 1 by omega), if_neg (show ¬ (4 : Int) = 2 by omega), if_neg (show ¬ (4 : Int) = 3 by omega)]
    clear hk
    have HK0 := Lib.hid (HKC.out 4 HK.out _ HOP1.out)
    clear HKC r1 r2 r3 hop hfw
    go_enter Try.func47, Try.ntmps47
    go_wp2_with fail
    refine HK0.out.mono ?_
    rintro e w2 ⟨rfl, hb2⟩
    obtain ⟨hf2, hd2, hbx2, hop2⟩ := HB2.out w2 hb2
    have c0 := hbx2.cell 0
    have c1' := hbx2.cell 1
    have c2' := hbx2.cell 2
    have c3' := hbx2.cell 3
    have c4' := hbx2.cell 4
    simp at c0 c1' c2' c3' c4'
    clear HK0 HB2 hb2 hbx2
    have hlen := spoilsD_le o
    have hls : ∀ x ∈ spoilsD o, -9223372036854775808 ≤ x.1 ∧ x.1 ≤ 9223372036854775807 := by
      intro x hx
      have h1 := List.mem_of_mem_take hx
      exact hat x.1 (List.of_mem_zip h1).1
    have HSP : Hid (∀ W, Below w2.heap.size w2 W → Calls Try.prog 64 #[.agg #[.int .i64 o.kind, .int .i64 o.n, .slice A1 o.b.length c1, .slice A2 o.at_.length c2, .slice A3 o.by_.length c3]] W (RetOwn W 93 2 none (spoilsD o).length (sp (spoilsD o)))) := by
      intro W hW
      have hB2 : B ≤ w2.heap.size := by have := hf2.size; omega
      have h1 := hop2.below (hW.mono hB2)
      refine spoils_any _ o W ?_
      obtain ⟨a1, a2, a3, a4, a5, a6, he, q1, q2, q3, rest⟩ := h1
      have hlt : ∀ k, Lt B k → Lt W.heap.size k := fun k hk => by have := hW.size; simp only [Lt] at hk ⊢; omega
      exact ⟨a1, a2, a3, a4, a5, a6, he, q1.more hlt, q2.more hlt, q3.more hlt, rest⟩
    have HUP : Hid (∀ (W W3 : World) (v : Value), Below w2.heap.size w2 W → Own W3 93 2 v (spoilsD o).length (sp (spoilsD o)) → Fr (AtO none) W W3 → Newer W.heap.size none v.ownBlock →
        Calls Try.prog 49 #[.pointer (some ⟨p, 0, none⟩), .int .i64 o.n, v] W3 (RetDS w p g (.tuple #[]) cap (upD s o.n (spoilsD o)))) := by
      intro W W3 v hW hown hfr hnew
      have hf3 : Fr No w W3 := (hf2.trans (Fr.of_below hW No)).trans (fr_at_none hfr)
      have hd3 : DkS W3 p g cap s := Dk.fr h hf3 (fun h => h) (fun _ _ h => h)
      obtain ⟨A, c, rfl, _, _⟩ := hown.form
      have hnn := newer_none hnew
      have hsz := (hf2.trans (Fr.of_below hW No)).size
      have hgl := Dk.ltg h
      refine (up_at p g cap s.sure s.b s.br o.n _ A c (spoilsD o) W3 hd3 hown.rd (fun k hk => ?_) (by omega) hls).mono fun e w' hr => ?_
      · have := hnn k hk
        refine ⟨by omega, fun hk2 => ?_⟩
        have := hgl k hk2
        omega
      · obtain ⟨he, hr'⟩ := RetDS.lift (p := p) (g := g) (cap := cap) (s := upD s o.n (spoilsD o)) (v := .tuple #[]) (v' := .tuple #[]) hf3 hr
        subst he
        exact hr'
    clear hd2 hop2 hls
    go_wp2_with fail
    go_region_with (first | (go_at_call 64; refine (HSP.out _ (by exact (Below.refl _ w2).drew)).mono ?_; rintro e w3 ⟨v3, rfl, ho3, hf3, hn3⟩; have c9 : w3.cell? ⟨w.heap.size, 1, none⟩ = some (.int .i64 o.n) := hf3.cell_some (by exact c1') (fun h => by simp [AtO] at h)) | (go_at_call 49; refine (HUP.out w2.drew _ _ (by exact (Below.refl _ w2).drew) ho3 hf3 hn3).mono ?_; rintro e w4 ⟨rfl, hr4⟩))
    all_goals
      go_wp2
      go_ret
      exact ⟨rfl, hr4⟩

/-- what a step tells of a disk that is not there -/
def doesN (o : OpD) : Nat := if kindD o.kind < 3 then 14 else 0

set_option maxHeartbeats 1000000 in
theorem does_nil (cs : List Value) (o : OpD) (B : Nat) (w : World) (ho : RdOp w B cs o) (hB : B ≤ w.heap.size) :
    Calls Try.prog 47 #[.pointer none, .agg cs.toArray] w fun e w' => e = .returned (.int .i64 (doesN o : Int)) ∧ Below w.heap.size w w' := by
  have hop := ho
  have hkd : kindD o.kind = 0 ∨ kindD o.kind = 1 ∨ kindD o.kind = 2 ∨ kindD o.kind = 3 ∨ kindD o.kind = 4 := by have := kindD_bd o.kind; omega
  have hkc := fun j hj W (hW : RdOp W B cs o) => kind_is cs o B W hW j hj
  obtain ⟨A1, c1, A2, c2, A3, c3, rfl, r1, r2, r3, _⟩ := ho
  have hop1 : RdOp (w.alloc (.cells #[.int .i64 o.kind, .int .i64 o.n, .slice A1 o.b.length c1, .slice A2 o.at_.length c2, .slice A3 o.by_.length c3] 68)) B _ o := hop.below ((Below.refl _ _).alloc hB _)
  have hbox := Blk.new w 68 #[.int .i64 o.kind, .int .i64 o.n, .slice A1 o.b.length c1, .slice A2 o.at_.length c2, .slice A3 o.by_.length c3]
  have HBX := Lib.hid hbox
  have HOP := Lib.hid hop1
  have HKC := Lib.hid hkc
  have HH := Lib.hid hop
  clear hop1 hkc hbox hop r1 r2 r3
  rcases hkd with hk | hk | hk | hk | hk
  · have HK := Lib.hid hk
    have e : doesN o = 14 := by unfold doesN; rw [hk]; rfl
    rw [e]
    clear hk e
    have HK0 := Lib.hid (HKC.out 0 HK.out _ HOP.out)
    clear HKC
    go_enter Try.func47, Try.ntmps47
    go_wp2_with fail
    refine HK0.out.mono ?_
    rintro e w2 ⟨rfl, hb2⟩
    have hb0 : Below w.heap.size w w2 := ((Below.refl _ _).alloc (Nat.le_refl _) _).trans (hb2.mono (by simp))
    have hbx2 := HBX.out.below hb2 (by simp)
    have c0 := hbx2.cell 0
    have c1' := hbx2.cell 1
    have c2' := hbx2.cell 2
    have c3' := hbx2.cell 3
    have c4' := hbx2.cell 4
    simp at c0 c1' c2' c3' c4'
    clear HK0 hb2 hbx2
    go_wp2_with (go_at_call 53; refine (append_nil _ _).mono ?_; rintro e w3 ⟨rfl, rfl⟩)
    go_ret
    exact ⟨rfl, hb0⟩
  · have HK := Lib.hid hk
    have e : doesN o = 14 := by unfold doesN; rw [hk]; rfl
    rw [e]
    clear hk e
    have HK0 := Lib.hid (HKC.out 1 HK.out _ HOP.out)
    clear HKC
    go_enter Try.func47, Try.ntmps47
    go_wp2_with fail
    refine HK0.out.mono ?_
    rintro e w2 ⟨rfl, hb2⟩
    have hb0 : Below w.heap.size w w2 := ((Below.refl _ _).alloc (Nat.le_refl _) _).trans (hb2.mono (by simp))
    have hbx2 := HBX.out.below hb2 (by simp)
    have c0 := hbx2.cell 0
    have c1' := hbx2.cell 1
    have c2' := hbx2.cell 2
    have c3' := hbx2.cell 3
    have c4' := hbx2.cell 4
    simp at c0 c1' c2' c3' c4'
    clear HK0 hb2 hbx2
    go_wp2_with (go_at_call 54; refine (sync_nil _).mono ?_; rintro e w3 ⟨rfl, rfl⟩)
    go_ret
    exact ⟨rfl, hb0⟩
  · have HK := Lib.hid hk
    have e : doesN o = 14 := by unfold doesN; rw [hk]; rfl
    rw [e]
    clear hk e
    have HK0 := Lib.hid (HKC.out 2 HK.out _ HOP.out)
    clear HKC
    go_enter Try.func47, Try.ntmps47
    go_wp2_with fail
    refine HK0.out.mono ?_
    rintro e w2 ⟨rfl, hb2⟩
    have hb0 : Below w.heap.size w w2 := ((Below.refl _ _).alloc (Nat.le_refl _) _).trans (hb2.mono (by simp))
    have hbx2 := HBX.out.below hb2 (by simp)
    have c0 := hbx2.cell 0
    have c1' := hbx2.cell 1
    have c2' := hbx2.cell 2
    have c3' := hbx2.cell 3
    have c4' := hbx2.cell 4
    simp at c0 c1' c2' c3' c4'
    clear HK0 hb2 hbx2
    go_wp2_with (go_at_call 52; refine (cut_nil _ _).mono ?_; rintro e w3 ⟨rfl, rfl⟩)
    go_ret
    exact ⟨rfl, hb0⟩
  · have HK := Lib.hid hk
    have e : doesN o = 0 := by unfold doesN; rw [hk]; rfl
    rw [e]
    clear hk e
    have HK0 := Lib.hid (HKC.out 3 HK.out _ HOP.out)
    clear HKC
    go_enter Try.func47, Try.ntmps47
    go_wp2_with fail
    refine HK0.out.mono ?_
    rintro e w2 ⟨rfl, hb2⟩
    have hb0 : Below w.heap.size w w2 := ((Below.refl _ _).alloc (Nat.le_refl _) _).trans (hb2.mono (by simp))
    have hbx2 := HBX.out.below hb2 (by simp)
    have c0 := hbx2.cell 0
    have c1' := hbx2.cell 1
    have c2' := hbx2.cell 2
    have c3' := hbx2.cell 3
    have c4' := hbx2.cell 4
    simp at c0 c1' c2' c3' c4'
    clear HK0 hb2 hbx2
    go_wp2_with (go_at_call 48; refine (break_nil _).mono ?_; rintro e w3 ⟨rfl, rfl⟩)
    go_ret
    exact ⟨rfl, hb0⟩
  · have HK := Lib.hid hk
    have e : doesN o = 0 := by unfold doesN; rw [hk]; rfl
    rw [e]
    clear hk e
    have HK0 := Lib.hid (HKC.out 4 HK.out _ HOP.out)
    clear HKC
    go_enter Try.func47, Try.ntmps47
    go_wp2_with fail
    refine HK0.out.mono ?_
    rintro e w2 ⟨rfl, hb2⟩
    have hb0 : Below w.heap.size w w2 := ((Below.refl _ _).alloc (Nat.le_refl _) _).trans (hb2.mono (by simp))
    have hbx2 := HBX.out.below hb2 (by simp)
    have c0 := hbx2.cell 0
    have c1' := hbx2.cell 1
    have c2' := hbx2.cell 2
    have c3' := hbx2.cell 3
    have c4' := hbx2.cell 4
    simp at c0 c1' c2' c3' c4'
    clear HK0 hb2 hbx2
    have HSP : Hid (∀ W, Below w2.heap.size w2 W → Calls Try.prog 64 #[.agg #[.int .i64 o.kind, .int .i64 o.n, .slice A1 o.b.length c1, .slice A2 o.at_.length c2, .slice A3 o.by_.length c3]] W (RetOwn W 93 2 none (spoilsD o).length (sp (spoilsD o)))) := by
      intro W hW
      have hB2 : B ≤ w2.heap.size := by have := hb0.size; omega
      have h1 := (HH.out.below (hb0.mono hB)).below (hW.mono hB2)
      refine spoils_any _ o W ?_
      obtain ⟨a1, a2, a3, a4, a5, a6, he, q1, q2, q3, rest⟩ := h1
      have hlt : ∀ k, Lt B k → Lt W.heap.size k := fun k hk => by have := hW.size; simp only [Lt] at hk ⊢; omega
      exact ⟨a1, a2, a3, a4, a5, a6, he, q1.more hlt, q2.more hlt, q3.more hlt, rest⟩
    have hs0 := hb0.size
    go_wp2_with fail
    go_region_with (first | (go_at_call 64; refine (HSP.out _ (by exact (Below.refl _ w2).drew)).mono ?_; rintro e w3 ⟨v3, rfl, ho3, hf3, hn3⟩; have c9 : w3.cell? ⟨w.heap.size, 1, none⟩ = some (.int .i64 o.n) := hf3.cell_some (by exact c1') (fun h => by simp [AtO] at h)) | (go_at_call 49; refine (up_nil _ _ _).mono ?_; rintro e w4 ⟨rfl, rfl⟩))
    all_goals
      go_wp2
      go_ret
      exact ⟨rfl, hb0.trans ((Below.refl _ w2).drew.trans (hf3.below_at (by exact hs0) (fun i _ h => by simp [AtO] at h)))⟩
end Go.Proofs.Ytjfbpnhkdlbinaa
