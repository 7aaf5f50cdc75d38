/- ClashBegins: the walk. -/
import Derived.Test.YtkkhdjchfhmliaaClashQ
namespace Go.Proofs.Ytkkhdjchfhmliaa
open Go.RowKit Go.My Go.Maps Go.WideMaps
set_option linter.unusedSimpArgs false
set_option linter.unusedVariables false
set_option linter.unusedSectionVars false
attribute [local go_sem ↓] Go.wp_at_zero Go.wp_at_succ

/-- append, under a guard that says yes -/
theorem wpList_appW {P : Program} (w : World) {ops : Array Oper} {rest : List Oper} {o : Oper} {a : Act} {Q : Exit → Act → World → Prop} (hgd : Region.wanted o (yielded ops a.tmps) = true) (s x : Operand) (t u : TypeId)
    (ho : o.op = .call { callee := .builtin .append, args := #[s, x], argTypes := #[t, u] })
    {e : TypeId} {size bytes : Nat} (he : El P t e size bytes) {v : Value} {n : Nat} {xs : List Value} (hown : Own w e size v n xs) (hs : a.eval s = v)
    {xv : Value} {m : Nat} {news : List Value} (hsrc : Src P w size u xv m news) (hx : a.eval x = xv) (h63 : n + m ≤ maxLen) (hbytes : (n + m) * bytes ≤ 140737488355328)
    (h : ∀ v' w', Own w' e size v' (n + m) (xs ++ news) → Fr (AtO v.ownBlock) w w' → (v'.ownBlock = v.ownBlock ∨ v'.ownBlock = some w.heap.size) → wpList P ops Q rest (a.put o.dst v') w') : wpList P ops Q (o :: rest) a w :=
  BigFrame.wpList_want hgd fun _ hK => wp_app w s x t u ho he hown hs hsrc hx h63 hbytes fun v' w' h2 h3 h4 => hK _ _ (h v' w' h2 h3 h4)
theorem odr_one {w : World} (cs : List Value) (o : Od) (h : OdR w cs o) : ∀ y ∈ cs, y.oneCell' = true := by
  obtain ⟨v, h1, h2, h3, h4⟩ := h
  exact odrf_one cs o ⟨v, h1, h2, h3, h4⟩
/-- a list appended to nothing -/
theorem ownN_copy {w w' : World} {v : Value} {cells : List Value} {l : List Od} (hE : Each (OdR w) 10 cells l) (ho : Own w' 40 10 v l.length cells) (hf : Fr (AtO none) w w') (hn : v.ownBlock = none ∨ v.ownBlock = some w.heap.size) : OwnN 0 w' v l := by
  have hf := fr_at_none hf
  have hs := hf.size
  refine ⟨cells, ho, each_imp hE fun cs o ⟨v, k1, k2, k3, k4⟩ => ⟨v, k1, k2, k3, (k4.no hf).more fun k hk => ⟨Nat.zero_le _, ?_, fun e => ?_⟩⟩⟩
  · have hk : k < w.heap.size := hk
    omega
  · have hk : k < w.heap.size := hk
    rcases hn with h | h
    · rw [h] at e; cases e
    · rw [h] at e
      simp only [Option.some.injEq] at e
      omega
theorem own_cells {w : World} {t : TypeId} {size n : Nat} {v : Value} {xs ys : List Value} (h : Own w t size v n xs) (k : Own w t size v n ys) : xs = ys := by
  obtain ⟨h1, h⟩ := h
  obtain ⟨k1, k⟩ := k
  rcases h with ⟨hv, h0⟩ | ⟨g, cap, cur, hv, hg, _, _, _, ht⟩
  · subst h0
    have e1 : xs = [] := List.eq_nil_of_length_eq_zero (by simpa using h1)
    have e2 : ys = [] := List.eq_nil_of_length_eq_zero (by simpa using k1)
    rw [e1, e2]
  · rcases k with ⟨hv2, h0⟩ | ⟨g', cap', cur', hv', hg', _, _, _, ht'⟩
    · rw [hv2] at hv
      injection hv with hv
      cases hv
    · rw [hv'] at hv
      injection hv with hv
      injection hv with hv
      injection hv with hv
      subst hv
      rw [hg'] at hg
      injection hg with hg
      injection hg with hg
      subst hg
      rw [← ht, ← ht']
theorem ownN_join {w1 w2 w3 w4 : World} {v1 v2 v4 : Value} {cells2 : List Value} {a r : List Od} (h1 : OwnN 0 w1 v1 a) (hf2 : Fr No w1 w2) (hf3 : Fr No w2 w3) (hE2 : Each (OdRF w3 (New w2.heap.size w3 v2.ownBlock)) 10 cells2 r) (hf4 : Fr (AtO v1.ownBlock) w3 w4)
    (hn : v4.ownBlock = v1.ownBlock ∨ v4.ownBlock = some w3.heap.size) (ho4 : ∀ cells1, Own w1 40 10 v1 a.length cells1 → Own w4 40 10 v4 (a ++ r).length (cells1 ++ cells2)) : OwnN 0 w4 v4 (a ++ r) := by
  obtain ⟨cells1, ho1, hE1⟩ := h1
  have s2 := hf2.size
  have s3 := hf3.size
  have s4 := hf4.size
  refine ⟨cells1 ++ cells2, ho4 cells1 ho1, ?_⟩
  refine each_append (each_imp hE1 fun cs o ⟨v, k1, k2, k3, k4⟩ => ⟨v, k1, k2, k3, ((k4.no (hf2.trans hf3)).frS hf4 fun k hk _ e => hk.2.2 e).more fun k hk => ⟨hk.1, by have := hk.2.1; omega, fun e => ?_⟩⟩) (each_imp hE2 fun cs o ⟨v, k1, k2, k3, k4⟩ => ⟨v, k1, k2, k3, (k4.frS hf4 fun k hk _ e => ?_).more fun k hk => ⟨Nat.zero_le _, by have := hk.2.1; omega, fun e => ?_⟩⟩)
  · rcases hn with hn | hn
    · rw [hn] at e
      exact hk.2.2 e
    · rw [hn] at e
      simp only [Option.some.injEq] at e
      have := hk.2.1
      omega
  · have := ho1.lt k e
    have := hk.1
    omega
  · rcases hn with hn | hn
    · rw [hn] at e
      have := ho1.lt k e
      have := hk.1
      omega
    · rw [hn] at e
      simp only [Option.some.injEq] at e
      have := hk.2.1
      omega
section
variable {l m : List Od} (hl : Rt Od.id l) (ha : Ak Od.id clashB l m) (i k : Nat)
include hl ha
theorem cb_1 : beginsB (l.take i) m = true := (beginsB_iff _ _).2 ((Bg.take hl i).trans ha.2)
theorem cb_2 : beginsB (m.take k) l = true := (beginsB_iff _ _).2 ((Bg.take ha.2.2.1 k).trans (Ak.symm clashB_comm ha).2)
theorem cb_3 : alikeB (l.take i ++ restO (l.take i) m) m = true := by
  unfold restO
  rw [cb_1 hl ha i, if_pos rfl, alikeB_iff]
  exact Bg.rest clashB_comm ((Bg.take hl i).trans ha.2)
theorem cb_4 : Bg Od.id clashB (m.take k) (meetO (l.take i) (m.take k)) ∧ Bg Od.id clashB (meetO (l.take i) (m.take k)) l :=
  Bg.meet clashB_comm (Bg.take hl i) ((Bg.take ha.2.2.1 k).trans (Ak.symm clashB_comm ha).2)
theorem cb_5 : meetB (l.take i) (m.take k) = true := (meetB_iff (hl.take i) (Rt.take ha.2.2.1 k)).2 (cb_4 hl ha i k).1
theorem cb_6 : beginsB (l.take i) (meetO (l.take i) (m.take k)) = true := (beginsB_iff _ _).2 (Bg.meet_left (hl.take i) (Rt.take ha.2.2.1 k))
theorem cb_7 : beginsB (m.take k) (meetO (l.take i) (m.take k)) = true := (beginsB_iff _ _).2 (cb_4 hl ha i k).1
theorem cb_8 : beginsB (meetO (l.take i) (m.take k)) l = true := (beginsB_iff _ _).2 (cb_4 hl ha i k).2
theorem cb_9 : rightL (meetO (l.take i) (m.take k)) = true := (rightL_iff _).2 (cb_4 hl ha i k).2.1
end
theorem rest_s {a b : List Od} (h : ∀ o ∈ b, o.legs.length ≤ 100000) : ∀ o ∈ restO a b, o.legs.length ≤ 100000 := fun o ho => h o (mem_rest ho).1
set_option maxRecDepth 100000 in
set_option maxHeartbeats 2000000 in
theorem clashBegins_walk (A : Option Addr) (c : Nat) (la : List Od) (B : Option Addr) (d : Nat) (S : List Int) (x y : Int) (w : World) (ra : OdsS w w (Lt w.heap.size) A la) (ca : la.length ≤ c) (ma : c ≤ maxLen) (rb : Rd w (Lt w.heap.size) 1 B S.length (is_ S)) (cb : S.length ≤ d) (mb : d ≤ maxLen) (hI : I64s S) :
    Calls Try.prog 3 #[.slice A la.length c, .slice B S.length d, .agg #[.int .i64 x, .int .i64 y]] w fun e w' => e = .returned (.bool true) ∧ Below w.heap.size w w' := by
  have HLV : Hid (∀ W, _) := fun W => lives10 W
  have HA : Hid (∀ W, Fr No w W → _) := fun W hW => few_own w W A c 30 la ra ca ma (by omega) hW
  have HMX : Hid (∀ W A c, Fr No w W → Ls W Tr A c (lawL la 30) → c ≤ maxLen → Calls Try.prog 10 #[.slice A (lawL la 30).length c, .slice B S.length d] W fun e w' => ∃ A' c' m, e = .returned (.slice A' (lawL la 30).length c') ∧ Ls w' Tr A' c' m ∧ m.length = (lawL la 30).length ∧ Ak Od.id clashB (lawL la 30) m ∧ Fr No W w') := fun W A c hW h hc => by
    refine (mixed_any W Tr _ A B c d (lawL la 30) S h hc (lawL_rt la 30) (rb.fr (by omega) hW (fun _ _ _ h => h)) (by unfold maxLen at mb; omega) hI).mono ?_
    rintro e w' ⟨A', c', m, h1, h2, h3, h4, h5, _⟩
    exact ⟨A', c', m, by rw [h1, h3], h2, h3, h4, h5⟩
  have HRA := Lib.hid (lawL_rt la 30)
  have hal := lawL_len la 30
  clear ra rb ca cb ma mb hI
  generalize hga : lawL la 30 = l at *
  clear hga
  generalize la.length = na at *
  generalize S.length = ns at *
  obtain ⟨i, hi, hil⟩ := umod x (l.length + 1) (by omega) (by omega)
  obtain ⟨k, hk, hkl⟩ := umod y (l.length + 1) (by omega) (by omega)
  have hia : i ≤ l.length := Nat.le_of_lt_succ hil
  have hka : k ≤ l.length := Nat.le_of_lt_succ hkl
  obtain ⟨hw1, hw2, hnz⟩ := len_succ (n := l.length) (Nat.le_trans hal (by decide))
  have hi' : wrap64 ((IntKind.u64.wrap x).tmod ((l.length : Int) + 1)) = (i : Int) := hi
  have hk' : wrap64 ((IntKind.u64.wrap y).tmod ((l.length : Int) + 1)) = (k : Int) := hk
  have hal1 : (l.length : Int) + 1 ≤ 31 := by clear hi hi' hk hk' hw1 hw2; omega
  have hia2 : (i : Int) ≤ l.length := by clear hi hi' hk hk' hw1 hw2; omega
  have hka2 : (k : Int) ≤ l.length := by clear hi hi' hk hk' hw1 hw2; omega
  have HIA := Lib.hid hia
  have HKA := Lib.hid hka
  have HAL := Lib.hid hal
  clear hi hk hil hkl hia hka
  have hbx := Blk.new w 24 #[.int .i64 x, .int .i64 y]
  have HBX := Lib.hid hbx
  have HF0 : Hid (Fr No w (w.alloc (.cells #[.int .i64 x, .int .i64 y] 24))) := (Fr.refl _ _).alloc _
  clear hbx
  go_enter Try.func3, Try.ntmps3
  go_wp2_with fail
  (with_reducible refine (HLV.out _).mono ?_)
  rintro e w1 ⟨rfl, hf1⟩
  have HBX1 := Lib.hid (HBX.out.fr hf1 (fun h => h))
  have HF1 := Lib.hid (HF0.out.trans hf1)
  clear hf1 HBX HF0
  go_wp2_with fail
  refine (HA.out _ HF1.out).mono ?_
  rintro e w2 ⟨A2, c2, m2, rfl, hf2, HA2⟩
  go_wp2_with fail
  (with_reducible refine (HA2 _ (Fr.refl _ _)).mono ?_)
  rintro e w3 ⟨A3, c3, rfl, hl3, hf3, hc3⟩
  clear HA2
  have HF3 := Lib.hid ((HF1.out.trans hf2).trans hf3)
  have HL3 := Lib.hid hl3
  have HBX3 := Lib.hid ((HBX1.out.fr hf2 (fun h => h)).fr hf3 (fun h => h))
  have HC3 := Lib.hid hc3
  clear hf2 hf3 hl3 hc3 HA HF1 HBX1
  go_wp2_with fail
  (with_reducible refine (HMX.out _ _ _ HF3.out HL3.out HC3.out).mono ?_)
  rintro e w4 ⟨A4, c4, m, rfl, hl4, hml, hak, hf4⟩
  have HF4 := Lib.hid (HF3.out.trans hf4)
  have HLl := Lib.hid (HL3.out.no hf4)
  have HLm := Lib.hid hl4
  have HML := Lib.hid hml
  have HAK := Lib.hid hak
  have hbx := HBX3.out.fr hf4 (fun h => h)
  have x0 := hbx.cell 0
  have x1 := hbx.cell 1
  simp only [List.getElem?_toArray, List.getElem?_cons_zero, List.getElem?_cons_succ] at x0 x1
  clear hf4 hl4 hml hak hbx HMX HF3 HL3 HBX3 HC3
  have hc3 : (l.length : Int) ≤ (c3 : Int) := by have := HLl.out.c; clear hi' hk' hw1 hw2; omega
  have hc4 : (l.length : Int) ≤ (c4 : Int) := by have := HLm.out.c; have := HML.out; clear hi' hk' hw1 hw2; omega
  have hic : (i : Int) ≤ (c3 : Int) := Int.le_trans hia2 hc3
  have hkc : (k : Int) ≤ (c4 : Int) := Int.le_trans hka2 hc4
  go_upto_region 5 with (fail)
  go_quiet (fail)
  clear x0 x1
  go_upto_region 6 with (fail)
  go_quiet (fail)
  have HG1 : Hid (∀ W, Ls W Tr A3 c3 l → Ls W Tr A4 c4 m → Calls Try.prog 11 #[.slice A3 i c3, .slice A4 l.length c4] W fun e w' => e = .returned (.bool true) ∧ Fr No W w') := fun W h1 h2 => by
    obtain ⟨t1, e1⟩ := h1.takeL HIA.out
    have h := beginsC_any W Tr Tr A3 A4 c3 c4 (l.take i) m t1 h2
    rw [cb_1 HRA.out HAK.out i, e1, HML.out] at h
    exact h
  have HG2 : Hid (∀ W, Ls W Tr A3 c3 l → Ls W Tr A4 c4 m → Calls Try.prog 11 #[.slice A4 k c4, .slice A3 l.length c3] W fun e w' => e = .returned (.bool true) ∧ Fr No W w') := fun W h1 h2 => by
    obtain ⟨t2, e2⟩ := h2.takeL (k := k) (by rw [HML.out]; exact HKA.out)
    have h := beginsC_any W Tr Tr A4 A3 c4 c3 (m.take k) l t2 h1
    rw [cb_2 HRA.out HAK.out k, e2] at h
    exact h
  have HTL : Hid ((l.take i).length = i) := by show _ = _; rw [List.length_take]; exact Nat.min_eq_left HIA.out
  have HTM : Hid ((m.take k).length = k) := by show _ = _; rw [List.length_take, HML.out]; exact Nat.min_eq_left HKA.out
  have HSA : Hid (∀ W, Ls W Tr A3 c3 l → ∃ cells, Src Try.prog W 10 22 (.slice A3 i c3) i cells ∧ Each (OdR W) 10 cells (l.take i)) := fun W h => by
    obtain ⟨⟨⟨cells, hr, hE⟩, _, _, _⟩, e⟩ := h.takeL HIA.out
    rw [e] at hr
    exact ⟨cells, Src.of_rd hr (each_all (P := fun y => y.oneCell' = true) (by omega) hE odr_one) Try.underlying22, hE⟩
  have HRS : Hid (∀ W, Ls W Tr A3 c3 l → Ls W Tr A4 c4 m → Calls Try.prog 13 #[.slice A3 i c3, .slice A4 l.length c4] W (RetN W (restO (l.take i) m))) := fun W h1 h2 => by
    obtain ⟨t1, e1⟩ := h1.takeL HIA.out
    have h := restC_any W Tr Tr A3 A4 c3 c4 (l.take i) m t1 h2
    rw [e1, HML.out] at h
    exact h
  have HRL : Hid (i + (restO (l.take i) m).length = l.length) := by
    have h := rest_len (cb_1 HRA.out HAK.out i)
    rw [HTL.out, HML.out] at h
    exact h
  have HAL2 : Hid (∀ W A c, OwnN 0 W (.slice A (i + (restO (l.take i) m).length) c) (l.take i ++ restO (l.take i) m) → Ls W Tr A3 c3 l → Ls W Tr A4 c4 m → Calls Try.prog 12 #[.slice A (i + (restO (l.take i) m).length) c, .slice A4 l.length c4] W fun e w' => e = .returned (.bool true) ∧ Fr No W w') := fun W A c h0 h1 h2 => by
    have hle : (l.take i ++ restO (l.take i) m).length = i + (restO (l.take i) m).length := by rw [List.length_append, HTL.out]
    rw [← hle] at h0 ⊢
    have h := alikeC_any W Tr Tr A A4 c c4 (l.take i ++ restO (l.take i) m) m (h0.ls (by rw [hle, HRL.out]; exact h1.n) (fun o ho => by
      rcases List.mem_append.1 ho with ho | ho
      · exact h1.s o (List.mem_of_mem_take ho)
      · exact rest_s h2.s o ho)) h2
    rw [cb_3 HRA.out HAK.out i, HML.out] at h
    exact h
  have HMT : Hid (∀ W, Ls W Tr A3 c3 l → Ls W Tr A4 c4 m → Calls Try.prog 14 #[.slice A3 i c3, .slice A4 k c4] W fun e w' => ∃ A' c' n, e = .returned (.tuple #[.slice A' n c', .bool true]) ∧ n = (meetO (l.take i) (m.take k)).length ∧ Ls w' Tr A' c' (meetO (l.take i) (m.take k)) ∧ Fr No W w') := fun W h1 h2 => by
    obtain ⟨t1, e1⟩ := h1.takeL HIA.out
    obtain ⟨t2, e2⟩ := h2.takeL (k := k) (by rw [HML.out]; exact HKA.out)
    have h := meetC_any W Tr Tr A3 A4 c3 c4 (l.take i) (m.take k) t1 t2 (by rw [e1, e2]; exact Nat.le_trans (Nat.add_le_add (Nat.le_trans HIA.out HAL.out) (Nat.le_trans HKA.out HAL.out)) (by decide))
    unfold retMeet at h
    rw [cb_5 HRA.out HAK.out i k, if_pos rfl, e1, e2] at h
    refine h.mono ?_
    rintro e w' ⟨A', c', h4, h5, h6, _⟩
    refine ⟨A', c', _, h4, rfl, h5.ls ?_ (meet_s t1.s t2.s), h6⟩
    have h7 := meet_len (l.take i) (m.take k)
    rw [e1, e2] at h7
    exact Nat.le_trans h7 (Nat.le_trans (Nat.add_le_add (Nat.le_trans HIA.out HAL.out) (Nat.le_trans HKA.out HAL.out)) (by decide))
  have HE1 : Hid (∀ W A c, Ls W Tr A3 c3 l → Ls W Tr A c (meetO (l.take i) (m.take k)) → Calls Try.prog 11 #[.slice A3 i c3, .slice A (meetO (l.take i) (m.take k)).length c] W fun e w' => e = .returned (.bool true) ∧ Fr No W w') := fun W A c h1 h2 => by
    obtain ⟨t1, e1⟩ := h1.takeL HIA.out
    have h := beginsC_any W Tr Tr A3 A c3 c (l.take i) _ t1 h2
    rw [cb_6 HRA.out HAK.out i k, e1] at h
    exact h
  have HE2 : Hid (∀ W A c, Ls W Tr A4 c4 m → Ls W Tr A c (meetO (l.take i) (m.take k)) → Calls Try.prog 11 #[.slice A4 k c4, .slice A (meetO (l.take i) (m.take k)).length c] W fun e w' => e = .returned (.bool true) ∧ Fr No W w') := fun W A c h1 h2 => by
    obtain ⟨t1, e1⟩ := h1.takeL (k := k) (by rw [HML.out]; exact HKA.out)
    have h := beginsC_any W Tr Tr A4 A c4 c (m.take k) _ t1 h2
    rw [cb_7 HRA.out HAK.out i k, e1] at h
    exact h
  have HE3 : Hid (∀ W A c, Ls W Tr A3 c3 l → Ls W Tr A c (meetO (l.take i) (m.take k)) → Calls Try.prog 11 #[.slice A (meetO (l.take i) (m.take k)).length c, .slice A3 l.length c3] W fun e w' => e = .returned (.bool true) ∧ Fr No W w') := fun W A c h1 h2 => by
    have h := beginsC_any W Tr Tr A A3 c c3 _ l h2 h1
    rw [cb_8 HRA.out HAK.out i k] at h
    exact h
  have HE4 : Hid (∀ W A c, Ls W Tr A c (meetO (l.take i) (m.take k)) → Calls Try.prog 15 #[.slice A (meetO (l.take i) (m.take k)).length c] W fun e w' => e = .returned (.bool true) ∧ Fr No W w') := fun W A c h2 => by
    have h := rightC_any W W Tr A c _ h2.ods h2.n
    rw [cb_9 HRA.out HAK.out i k] at h
    exact h
  have HJN : Hid (∀ (w6 w7 w8 w9 : World) (v1 v2 v4 : Value) (cells cells2 : List Value), Each (OdR w6) 10 cells (l.take i) → Own w7 40 10 v1 i cells → Fr (AtO none) w6 w7 → (v1.ownBlock = none ∨ v1.ownBlock = some w6.heap.size) → Fr No w7 w8 → Each (OdRF w8 (New w7.heap.size w8 v2.ownBlock)) 10 cells2 (restO (l.take i) m) → Fr (AtO v1.ownBlock) w8 w9 → (v4.ownBlock = v1.ownBlock ∨ v4.ownBlock = some w8.heap.size) → Own w9 40 10 v4 (i + (restO (l.take i) m).length) (cells ++ cells2) → OwnN 0 w9 v4 (l.take i ++ restO (l.take i) m)) := fun w6 w7 w8 w9 v1 v2 v4 cells cells2 hE ho hf hn hf2 hE2 hf4 hn4 ho4 => by
    have h1 := ownN_copy hE (by rw [HTL.out]; exact ho) hf hn
    obtain ⟨cells0, ho0, hE0⟩ := h1
    have : cells0 = cells := own_cells ho0 (by rw [HTL.out]; exact ho)
    subst this
    exact ownN_join (v2 := v2) ⟨cells0, ho0, hE0⟩ (Fr.refl _ _) hf2 hE2 hf4 hn4 fun cells1 hc1 => by
      rw [List.length_append, HTL.out]
      have : cells1 = cells0 := own_cells hc1 ho0
      rw [this]
      exact ho4
  clear hi' hk' hw1 hw2 hnz HRA HAL HIA HKA
  generalize hRR : restO (l.take i) m = r at *
  generalize hMM : meetO (l.take i) (m.take k) = mm at *
  clear hRR hMM
  go_wp2_with fail
  (with_reducible refine (HG1.out _ (HLl.out.no ((Fr.refl No w4).drewN _)) (HLm.out.no ((Fr.refl No w4).drewN _))).mono ?_)
  rintro e w5 ⟨rfl, hf5⟩
  have HL5 := Lib.hid (HLl.out.no (((Fr.refl No w4).drewN _).trans hf5))
  have HM5 := Lib.hid (HLm.out.no (((Fr.refl No w4).drewN _).trans hf5))
  have HF5 := Lib.hid (HF4.out.trans (((Fr.refl No w4).drewN _).trans hf5))
  clear hf5 HLl HLm HF4
  go_wp2_with fail
  (with_reducible refine (HG2.out _ HL5.out HM5.out).mono ?_)
  rintro e w6 ⟨rfl, hf6⟩
  have HL6 := Lib.hid (HL5.out.no hf6)
  have HM6 := Lib.hid (HM5.out.no hf6)
  have HF6 := Lib.hid (HF5.out.trans hf6)
  clear hf6 HL5 HM5 HF5
  obtain ⟨cells, hsrc, hE6⟩ := HSA.out _ HL6.out
  have HSR := Lib.hid hsrc
  have HE6 := Lib.hid hE6
  clear hsrc hE6
  go_wp2_with (first | (at_builtin; refine wpList_appW _ (by rfl) (.const (.slice none 0 0)) (.tmp 57) 22 22 rfl elO (Own.nil _ _ _) rfl HSR.out rfl (by simp only [maxLen]; omega) (by omega) ?_; intro v1 w7 ho7 hf7 hn7; have HO7 : Hid (Own w7 40 10 v1 i cells) := (by rw [Nat.zero_add, List.nil_append] at ho7; exact ho7); have HF7 := Lib.hid hf7; have HN7 : Hid (v1.ownBlock = none ∨ v1.ownBlock = some w6.heap.size) := hn7; have HW7 : Hid (Fr No w6 w7) := fr_at_none hf7; clear ho7 hf7 hn7) | fail)
  (with_reducible refine (HRS.out _ (HL6.out.no HW7.out) (HM6.out.no HW7.out)).mono ?_)
  rintro e w8 ⟨A8, c8, rfl, ho8, hf8, -⟩
  have HL8 := Lib.hid ((HL6.out.no HW7.out).no hf8)
  have HM8 := Lib.hid ((HM6.out.no HW7.out).no hf8)
  have HF8 := Lib.hid ((HF6.out.trans HW7.out).trans hf8)
  have HO8 := Lib.hid (HO7.out.fr hf8 (fun _ _ h => h))
  have HW8 := Lib.hid hf8
  obtain ⟨cells2, hown8, hE8⟩ := ho8
  have HS8 : Hid (Src Try.prog w8 10 22 (.slice A8 r.length c8) r.length cells2) := Src.of_rd hown8.rd (each_all (P := fun y => y.oneCell' = true) (by omega) hE8 odrf_one) Try.underlying22
  have HE8 := Lib.hid hE8
  have HSZ : Hid (w.heap.size ≤ w6.heap.size) := HF6.out.size
  have hrl : (i : Int) + (r.length : Int) ≤ 31 := by have := HRL.out; omega
  clear hown8 hE8 hf8
  go_wp2_with (first | (at_builtin; refine wpList_appW _ (by rfl) (.tmp 58) (.tmp 61) 22 22 rfl elO HO8.out rfl HS8.out rfl (by simp only [maxLen]; omega) (by omega) ?_; intro v4 w9 ho9 hf9 hn9; obtain ⟨A9, c9, rfl, -, -⟩ := ho9.form; have HON := Lib.hid (HJN.out _ _ _ _ _ _ _ _ _ HE6.out HO7.out HF7.out HN7.out HW8.out HE8.out hf9 hn9 ho9); have HX9 := Lib.hid hf9; clear ho9 hf9 hn9) | fail)
  have HF69 : Hid (Fr No w6 w9) := (HW7.out.trans HW8.out).trans' HX9.out (fun j hj hlt => by
    have hj : _ = some j := hj
    rcases HN7.out with h | h
    · rw [h] at hj; cases hj
    · rw [h] at hj
      simp only [Option.some.injEq] at hj
      omega)
  have HL9 := Lib.hid (HL6.out.no HF69.out)
  have HM9 := Lib.hid (HM6.out.no HF69.out)
  have HF9 := Lib.hid (HF6.out.trans HF69.out)
  clear HL6 HM6 HF6 HL8 HM8 HF8 HX9 HF69 HW7 HW8 HN7 HF7 HO7 HO8 HS8 HE8 HE6 HSR HSZ
  (with_reducible refine (HAL2.out _ _ _ HON.out HL9.out HM9.out).mono ?_)
  rintro e w10 ⟨rfl, hf10⟩
  have HL10 := Lib.hid (HL9.out.no hf10)
  have HM10 := Lib.hid (HM9.out.no hf10)
  have HF10 := Lib.hid (HF9.out.trans hf10)
  clear hf10 HL9 HM9 HF9 HON
  go_wp2_with fail
  (with_reducible refine (HMT.out _ HL10.out HM10.out).mono ?_)
  rintro e w11 ⟨A11, c11, nm, rfl, hnm, hl11, hf11⟩
  subst hnm
  have HN11 := Lib.hid hl11
  have HL11 := Lib.hid (HL10.out.no hf11)
  have HM11 := Lib.hid (HM10.out.no hf11)
  have HF11 := Lib.hid (HF10.out.trans hf11)
  clear hf11 hl11 HL10 HM10 HF10 HMT HAL2 HJN
  go_wp2_with fail
  (with_reducible refine (HE1.out _ _ _ HL11.out HN11.out).mono ?_)
  rintro e w12 ⟨rfl, hf12⟩
  have HN12 := Lib.hid (HN11.out.no hf12)
  have HL12 := Lib.hid (HL11.out.no hf12)
  have HM12 := Lib.hid (HM11.out.no hf12)
  have HF12 := Lib.hid (HF11.out.trans hf12)
  clear hf12 HN11 HL11 HM11 HF11
  go_wp2_with fail
  (with_reducible refine (HE2.out _ _ _ HM12.out HN12.out).mono ?_)
  rintro e w13 ⟨rfl, hf13⟩
  have HN13 := Lib.hid (HN12.out.no hf13)
  have HL13 := Lib.hid (HL12.out.no hf13)
  have HF13 := Lib.hid (HF12.out.trans hf13)
  clear hf13 HN12 HL12 HM12 HF12
  go_wp2_with fail
  (with_reducible refine (HE3.out _ _ _ HL13.out HN13.out).mono ?_)
  rintro e w14 ⟨rfl, hf14⟩
  have HN14 := Lib.hid (HN13.out.no hf14)
  have HF14 := Lib.hid (HF13.out.trans hf14)
  clear hf14 HN13 HL13 HF13
  go_wp2_with fail
  (with_reducible refine (HE4.out _ _ _ HN14.out).mono ?_)
  rintro e w15 ⟨rfl, hf15⟩
  go_wp2
  go_ret
  exact ⟨rfl, (HF14.out.trans hf15).belowNo⟩
end Go.Proofs.Ytkkhdjchfhmliaa
