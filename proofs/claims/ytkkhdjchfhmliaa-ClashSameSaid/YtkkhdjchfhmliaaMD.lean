/- clash.Begins, Alike, Rest, Meet. clash.Meet. An order written into a row of the call's own. -/
import Derived.Test.YtkkhdjchfhmliaaClashD
import Derived.Deep.RegionWith
import Derived.Deep.RegionLaw
namespace Go.Proofs.Ytkkhdjchfhmliaa
open Go.RowKit Go.My Go.Maps Go.WideMaps
set_option linter.unusedSimpArgs false
set_option linter.unusedVariables false
attribute [local go_sem ↓] Go.wp_at_zero Go.wp_at_succ

/-- a list of orders that may be handed in: as it lies now -/
structure Ls (w : World) (F : Nat → Prop) (A : Option Addr) (c : Nat) (l : List Od) : Prop where
  ods : OdsS w w F A l
  n : l.length ≤ 1000000
  c : l.length ≤ c
  s : ∀ o ∈ l, o.legs.length ≤ 100000
theorem Ls.no {w w' : World} {F : Nat → Prop} {A : Option Addr} {c : Nat} {l : List Od} (h : Ls w F A c l) (hf : Fr No w w') : Ls w' F A c l := ⟨h.ods.now hf, h.n, h.c, h.s⟩
set_option maxRecDepth 100000 in
theorem beginsC_any (w : World) (F G : Nat → Prop) (A B : Option Addr) (c d : Nat) (a b : List Od) (ha : Ls w F A c a) (hb : Ls w G B d b) :
    Calls Try.prog 11 #[.slice A a.length c, .slice B b.length d] w fun e w' => e = .returned (.bool (beginsB a b)) ∧ Fr No w w' := by
  have H1 : Hid (∀ W, Fr No w W → Calls Try.prog 15 #[.slice A a.length c] W fun e w' => e = .returned (.bool (rightL a)) ∧ Fr No W w') := fun W hW => rightC_any W W F A c a (ha.no hW).ods ha.n
  have H2 : Hid (∀ W, Fr No w W → Calls Try.prog 15 #[.slice B b.length d] W fun e w' => e = .returned (.bool (rightL b)) ∧ Fr No W w') := fun W hW => rightC_any W W G B d b (hb.no hW).ods hb.n
  have H3 : Hid (∀ W, Fr No w W → Calls Try.prog 21 #[.slice B b.length d, .slice A a.length c] W fun e w' => e = .returned (.bool (containsB b a)) ∧ Fr No W w') := fun W hW => contains_any W F G A B c d a b (ha.no hW).ods (hb.no hW).ods ha.n hb.n hb.c
  have H4 : Hid (∀ W, Fr No w W → Calls Try.prog 22 #[.slice A a.length c, .slice B b.length d] W fun e w' => e = .returned (.bool (begB a b)) ∧ Fr No W w') := fun W hW => begins_any W F G A B c d a b (ha.no hW).ods (hb.no hW).ods ha.n hb.n hb.s
  unfold beginsB
  clear ha hb
  generalize rightL a = r1 at *
  generalize rightL b = r2 at *
  generalize containsB b a = r3 at *
  generalize begB a b = r4 at *
  cases r1
  · go_enter Try.func11, Try.ntmps11
    go_wp2_with fail
    (with_reducible refine (H1.out _ (Fr.refl _ _)).mono ?_)
    rintro e w1 ⟨rfl, hf1⟩
    go_wp2
    go_ret
    exact ⟨rfl, hf1⟩
  cases r2
  · go_enter Try.func11, Try.ntmps11
    go_wp2_with fail
    (with_reducible refine (H1.out _ (Fr.refl _ _)).mono ?_)
    rintro e w1 ⟨rfl, hf1⟩
    go_wp2_with fail
    (with_reducible refine (H2.out _ hf1).mono ?_)
    rintro e w2 ⟨rfl, hf2⟩
    go_wp2
    go_ret
    exact ⟨rfl, hf1.trans hf2⟩
  cases r3
  · go_enter Try.func11, Try.ntmps11
    go_wp2_with fail
    (with_reducible refine (H1.out _ (Fr.refl _ _)).mono ?_)
    rintro e w1 ⟨rfl, hf1⟩
    go_wp2_with fail
    (with_reducible refine (H2.out _ hf1).mono ?_)
    rintro e w2 ⟨rfl, hf2⟩
    go_wp2_with fail
    (with_reducible refine (H3.out _ (hf1.trans hf2)).mono ?_)
    rintro e w3 ⟨rfl, hf3⟩
    go_wp2
    go_ret
    exact ⟨rfl, (hf1.trans hf2).trans hf3⟩
  · go_enter Try.func11, Try.ntmps11
    go_wp2_with fail
    (with_reducible refine (H1.out _ (Fr.refl _ _)).mono ?_)
    rintro e w1 ⟨rfl, hf1⟩
    go_wp2_with fail
    (with_reducible refine (H2.out _ hf1).mono ?_)
    rintro e w2 ⟨rfl, hf2⟩
    go_wp2_with fail
    (with_reducible refine (H3.out _ (hf1.trans hf2)).mono ?_)
    rintro e w3 ⟨rfl, hf3⟩
    go_wp2_with fail
    (with_reducible refine (H4.out _ ((hf1.trans hf2).trans hf3)).mono ?_)
    rintro e w4 ⟨rfl, hf4⟩
    go_wp2
    go_ret
    exact ⟨rfl, ((hf1.trans hf2).trans hf3).trans hf4⟩
set_option maxRecDepth 100000 in
theorem alikeC_any (w : World) (F G : Nat → Prop) (A B : Option Addr) (c d : Nat) (a b : List Od) (ha : Ls w F A c a) (hb : Ls w G B d b) :
    Calls Try.prog 12 #[.slice A a.length c, .slice B b.length d] w fun e w' => e = .returned (.bool (alikeB a b)) ∧ Fr No w w' := by
  have H1 := Lib.hid (beginsC_any w F G A B c d a b ha hb)
  unfold alikeB
  clear ha hb
  generalize beginsB a b = r1 at *
  by_cases he : a.length = b.length
  · rw [decide_eq_true he, Bool.true_and]
    go_enter Try.func12, Try.ntmps12
    have hei : ((a.length : Int) == (b.length : Int)) = true := by rw [he]; exact beq_self_eq_true _
    rw [he] at H1
    generalize a.length = n at *
    subst he
    go_wp2_with fail
    (with_reducible refine H1.out.mono ?_)
    rintro e w1 ⟨rfl, hf1⟩
    go_wp2
    go_ret
    exact ⟨rfl, hf1⟩
  · rw [decide_eq_false he, Bool.false_and]
    have hei : ((a.length : Int) == (b.length : Int)) = false := beq_eq_false_iff_ne.2 (by omega)
    have hen : (a.length == b.length) = false := beq_eq_false_iff_ne.2 he
    generalize a.length = n at *
    generalize b.length = m at *
    clear H1
    go_enter Try.func12, Try.ntmps12
    go_wp2
    go_ret
    exact ⟨rfl, Fr.refl _ _⟩
/-- handed back: orders of the call's own, and one word -/
def RetN2 (w : World) (l : List Od) (r : Bool) (e : Ending) (w' : World) : Prop := ∃ A c, e = .returned (.tuple #[.slice A l.length c, .bool r]) ∧ OwnN w.heap.size w' (.slice A l.length c) l ∧ Fr No w w' ∧ ∀ k, (Value.slice A l.length c).ownBlock = some k → w.heap.size ≤ k
theorem out_left (a b : List Od) : b.filter (leftB (idsO a)) = outO a b := (outO_eq a b).symm
set_option maxRecDepth 100000 in
theorem restC_any (w : World) (F G : Nat → Prop) (A B : Option Addr) (c d : Nat) (a b : List Od) (ha : Ls w F A c a) (hb : Ls w G B d b) :
    Calls Try.prog 13 #[.slice A a.length c, .slice B b.length d] w (RetN w (restO a b)) := by
  have H1 := Lib.hid (beginsC_any w F G A B c d a b ha hb)
  have H2 : Hid (∀ W, Fr No w W → Calls Try.prog 24 #[.slice A a.length c] W fun e w' => ∃ g m, e = .returned (woV g) ∧ WoS w' g m (idsO a) ∧ Fr No W w') := fun W hW => without_any W W F A c a (ha.no hW).ods ha.n
  have H3 : Hid (∀ W g m, Fr No w W → WoS W g m (idsO a) → Calls Try.prog 23 #[.slice B b.length d, woV g] W (RetN W (outO a b))) := fun W g m hW hw => by
    rw [← out_left]
    exact kept_any W G B d b g m (idsO a) (hb.no hW).ods hb.n hb.s hw
  unfold restO
  clear ha hb
  generalize beginsB a b = r1 at *
  generalize outO a b = r at *
  cases r1
  · rw [if_neg (by decide)]
    go_enter Try.func13, Try.ntmps13
    go_wp2_with fail
    (with_reducible refine H1.out.mono ?_)
    rintro e w1 ⟨rfl, hf1⟩
    go_wp2
    go_ret
    exact ⟨none, 0, rfl, OwnN.nil _ _, hf1, fun k hk => by cases hk⟩
  · rw [if_pos rfl]
    go_enter Try.func13, Try.ntmps13
    go_wp2_with fail
    (with_reducible refine H1.out.mono ?_)
    rintro e w1 ⟨rfl, hf1⟩
    go_wp2_with fail
    (with_reducible refine (H2.out _ hf1).mono ?_)
    rintro e w2 ⟨g, m, rfl, hw, hf2⟩
    go_wp2_with fail
    (with_reducible refine (H3.out _ _ _ (hf1.trans hf2) hw).mono ?_)
    rintro e w3 ⟨A3, c3, rfl, ho3, hf3, hn3⟩
    go_wp2
    go_ret
    have s1 := (hf1.trans hf2).size
    obtain ⟨cells, hown, hE⟩ := ho3
    exact ⟨A3, c3, rfl, ⟨cells, hown, each_imp hE fun cs o ⟨v, h1, h2, h3, h4⟩ => ⟨v, h1, h2, h3, h4.more fun k hk => ⟨Nat.le_trans s1 hk.1, hk.2.1, hk.2.2⟩⟩⟩, (hf1.trans hf2).trans hf3, fun k hk => Nat.le_trans s1 (hn3 k hk)⟩
end Go.Proofs.Ytkkhdjchfhmliaa

namespace Go.Proofs.Ytkkhdjchfhmliaa
open Go.RowKit Go.My Go.Maps Go.WideMaps
set_option linter.unusedSimpArgs false
set_option linter.unusedVariables false
attribute [local go_sem ↓] Go.wp_at_zero Go.wp_at_succ

theorem each_all {α : Type} {R : List Value → α → Prop} {P : Value → Prop} {n : Nat} {cells : List Value} {l : List α} (hn : 0 < n) (h : Each R n cells l) (hR : ∀ cs x, R cs x → ∀ y ∈ cs, P y) : ∀ y ∈ cells, P y := by
  intro y hy
  obtain ⟨j, hj, rfl⟩ := List.mem_iff_getElem.1 hy
  have hlen := h.1
  have hi : j / n < l.length := by
    rw [Nat.div_lt_iff_lt_mul hn]
    omega
  have h2 := hR _ _ (h.2 (j / n) l[j / n] (List.getElem?_eq_getElem hi))
  apply h2
  rw [List.mem_iff_getElem?]
  refine ⟨j % n, ?_⟩
  rw [List.getElem?_take, if_pos (Nat.mod_lt _ hn), List.getElem?_drop]
  have e : j / n * n + j % n = j := by rw [Nat.mul_comm]; exact Nat.div_add_mod j n
  rw [e, List.getElem?_eq_getElem hj]
theorem each_append {α : Type} {R : List Value → α → Prop} {n : Nat} {cells cells2 : List Value} {l m : List α} (h : Each R n cells l) (h2 : Each R n cells2 m) : Each R n (cells ++ cells2) (l ++ m) := by
  refine ⟨by rw [List.length_append, h.1, h2.1, List.length_append, Nat.add_mul], fun i x hx => ?_⟩
  by_cases hi : i < l.length
  · rw [List.getElem?_append_left hi] at hx
    have h1 := h.2 i x hx
    have h3 : i * n + n ≤ cells.length := by rw [h.1]; have := Nat.mul_le_mul_right n (show i + 1 ≤ l.length from hi); rw [Nat.add_mul] at this; omega
    rw [List.drop_append_of_le_length (by omega), List.take_append_of_le_length (by rw [List.length_drop]; omega)]
    exact h1
  · rw [List.getElem?_append_right (by omega)] at hx
    have h1 := h2.2 _ x hx
    have e : i * n = cells.length + (i - l.length) * n := by
      rw [h.1, ← Nat.add_mul]
      congr 1
      omega
    rw [e, List.drop_append, List.drop_of_length_le (by omega), Nat.add_sub_cancel_left, List.nil_append]
    exact h1
theorem odrf_one {w : World} {F : Nat → Prop} (cs : List Value) (o : Od) (h : OdRF w F cs o) : ∀ y ∈ cs, y.oneCell' = true := by
  obtain ⟨v, rfl, _, _, hv⟩ := h
  obtain ⟨A, c, rfl, _, _⟩ := hv.form
  intro y hy
  unfold Od.cs at hy
  simp only [List.mem_cons, List.not_mem_nil, or_false] at hy
  rcases hy with rfl | rfl | rfl | rfl | rfl | rfl | rfl | rfl | rfl | rfl <;> rfl
set_option maxRecDepth 100000 in
set_option maxHeartbeats 1000000 in
theorem meetC_any (w : World) (F G : Nat → Prop) (A B : Option Addr) (c d : Nat) (a b : List Od) (ha : Ls w F A c a) (hb : Ls w G B d b) (hab : a.length + b.length ≤ 1000000) :
    Calls Try.prog 14 #[.slice A a.length c, .slice B b.length d] w (RetN2 w (retMeet a b) (meetB a b)) := by
  have H1 := Lib.hid (copyAll_any w F A c a ha.ods ha.n ha.s)
  have H2 : Hid (∀ W, Fr No w W → Calls Try.prog 24 #[.slice A a.length c] W fun e w' => ∃ g m, e = .returned (woV g) ∧ WoS w' g m (idsO a) ∧ Fr No W w') := fun W hW => without_any W W F A c a (ha.no hW).ods ha.n
  have H3 : Hid (∀ W g m, Fr No w W → WoS W g m (idsO a) → Calls Try.prog 23 #[.slice B b.length d, woV g] W (RetN W (outO a b))) := fun W g m hW hw => by
    rw [← out_left]
    exact kept_any W G B d b g m (idsO a) (hb.no hW).ods hb.n hb.s hw
  have HLE : Hid ((outO a b).length ≤ b.length) := by
    show _ ≤ _
    unfold outO others
    exact List.length_filter_le _ _
  have H4 : Hid (∀ W A1 c1 B1, Fr No w W → OwnN B1 W (.slice A1 (a.length + (outO a b).length) c1) (meetO a b) → Calls Try.prog 11 #[.slice A a.length c, .slice A1 (a.length + (outO a b).length) c1] W fun e w' => e = .returned (.bool (beginsB a (meetO a b))) ∧ Fr No W w') := fun W A1 c1 B1 hW ho => by
    have hle := HLE.out
    have hlen : (meetO a b).length = a.length + (outO a b).length := by unfold meetO; rw [List.length_append]
    obtain ⟨A2, c2, e2, hc1, hc2⟩ := ho.form
    rw [hlen] at e2
    injection e2 with e3 e4 e5
    subst e3 e5
    have h := beginsC_any W F _ A A1 c c1 a (meetO a b) (ha.no hW) ⟨ho.ods, by rw [hlen]; omega, hc1, fun o ho => by
      unfold meetO outO at ho
      rcases List.mem_append.1 ho with ho | ho
      · exact ha.s o ho
      · exact hb.s o (mem_others.1 ho).1⟩
    rw [hlen] at h
    exact h
  have H5 : Hid (∀ W A1 c1 B1, Fr No w W → OwnN B1 W (.slice A1 (a.length + (outO a b).length) c1) (meetO a b) → Calls Try.prog 11 #[.slice B b.length d, .slice A1 (a.length + (outO a b).length) c1] W fun e w' => e = .returned (.bool (beginsB b (meetO a b))) ∧ Fr No W w') := fun W A1 c1 B1 hW ho => by
    have hle := HLE.out
    have hlen : (meetO a b).length = a.length + (outO a b).length := by unfold meetO; rw [List.length_append]
    obtain ⟨A2, c2, e2, hc1, hc2⟩ := ho.form
    rw [hlen] at e2
    injection e2 with e3 e4 e5
    subst e3 e5
    have h := beginsC_any W G _ B A1 d c1 b (meetO a b) (hb.no hW) ⟨ho.ods, by rw [hlen]; omega, hc1, fun o ho => by
      unfold meetO outO at ho
      rcases List.mem_append.1 ho with ho | ho
      · exact ha.s o ho
      · exact hb.s o (mem_others.1 ho).1⟩
    rw [hlen] at h
    exact h
  have HML : Hid ((meetO a b).length = a.length + (outO a b).length) := by show _ = _; unfold meetO; rw [List.length_append]
  have HAP : Hid (∀ (w1 w2 w3 w4 : World) (v1 v2 v4 : Value) (cells1 cells2 : List Value), Own w1 40 10 v1 a.length cells1 → Each (OdRF w1 (New w.heap.size w1 v1.ownBlock)) 10 cells1 a → Fr No w w1 → Fr No w1 w2 → Fr No w2 w3 → Each (OdRF w3 (New w2.heap.size w3 v2.ownBlock)) 10 cells2 (outO a b) → Fr (AtO v1.ownBlock) w3 w4 → (v4.ownBlock = v1.ownBlock ∨ v4.ownBlock = some w3.heap.size) → Own w4 40 10 v4 (a.length + (outO a b).length) (cells1 ++ cells2) → OwnN w.heap.size w4 v4 (meetO a b)) := fun w1 w2 w3 w4 v1 v2 v4 cells1 cells2 ho1 hE1 hf1 hf2 hf3 hE2 hf4 hn ho4 => by
    have s1 := hf1.size
    have s2 := hf2.size
    have s3 := hf3.size
    have s4 := hf4.size
    refine ⟨cells1 ++ cells2, by rw [HML.out]; exact ho4, ?_⟩
    refine each_append (each_imp hE1 fun cs o ⟨v, k1, k2, k3, k4⟩ => ⟨v, k1, k2, k3, ((k4.no (hf2.trans hf3)).frS hf4 fun k hk _ e => hk.2.2 e).more fun k hk => ⟨hk.1, by have := hk.2.1; omega, fun e => ?_⟩⟩) (each_imp hE2 fun cs o ⟨v, k1, k2, k3, k4⟩ => ⟨v, k1, k2, k3, (k4.frS hf4 fun k hk _ e => ?_).more fun k hk => ⟨by have := hk.1; omega, by have := hk.2.1; omega, fun e => ?_⟩⟩)
    · rcases hn with hn | hn
      · rw [hn] at e
        exact hk.2.2 e
      · rw [hn] at e
        simp only [Option.some.injEq] at e
        have := hk.2.1
        omega
    · have := ho1.lt k e
      have := hk.1
      omega
    · rcases hn with hn | hn
      · rw [hn] at e
        have := ho1.lt k e
        have := hk.1
        omega
      · rw [hn] at e
        simp only [Option.some.injEq] at e
        have := hk.2.1
        omega
  have HBN : Hid (a.length + (outO a b).length ≤ 1000000) := by show _ ≤ _; have := HLE.out; omega
  unfold retMeet meetB
  have HLA := Lib.hid ha.c
  clear ha hb hab
  generalize beginsB a (meetO a b) = r1 at *
  generalize beginsB b (meetO a b) = r2 at *
  generalize hml : meetO a b = m at *
  generalize outO a b = r at *
  cases r1
  · rw [show (false && r2) = false from rfl, if_neg (by decide)]
    go_enter Try.func14, Try.ntmps14
    go_wp2_with fail
    (with_reducible refine H1.out.mono ?_)
    rintro e w1 ⟨A1, c1, rfl, ho1, hf1, hn1⟩
    go_wp2_with fail
    (with_reducible refine (H2.out _ hf1).mono ?_)
    rintro e w2 ⟨g, m_, rfl, hw2, hf2⟩
    go_wp2_with fail
    (with_reducible refine (H3.out _ _ _ (hf1.trans hf2) hw2).mono ?_)
    rintro e w3 ⟨A3, c3, rfl, ho3, hf3, hn3⟩
    obtain ⟨cells1, hown1, hE1⟩ := ho1
    obtain ⟨cells3, hown3, hE3⟩ := ho3
    have HS3 : Hid (Src Try.prog w3 10 22 (.slice A3 r.length c3) r.length cells3) := Src.of_rd hown3.rd (each_all (P := fun y => y.oneCell' = true) (by omega) hE3 odrf_one) Try.underlying22
    have HO1 := Lib.hid hown1
    have HE1 := Lib.hid hE1
    have HE3 := Lib.hid hE3
    have HF1 := Lib.hid hf1
    have HF2 := Lib.hid hf2
    have HF3 := Lib.hid hf3
    have HN1 := Lib.hid hn1
    have HNC : Hid (m_ = m_) := rfl
    clear hown1 hE1 hE3 hf1 hf2 hf3 hn1 hn3 hw2 hown3
    go_wp2_with (first | (at_builtin; refine wpList_app _ rfl (.tmp 8) (.tmp 12) 22 22 rfl elO (HO1.out.fr (HF2.out.trans HF3.out) (fun _ _ h => h)) rfl HS3.out rfl (by have := HBN.out; simp only [maxLen]; omega) (by have := HBN.out; omega) ?_; intro v4 w4 hown4 hfr4 hnew4; obtain ⟨A4, c4, rfl, hc4, hd4⟩ := hown4.form; have HON := Lib.hid (HAP.out _ _ _ _ _ _ _ _ _ HO1.out HE1.out HF1.out HF2.out HF3.out HE3.out hfr4 hnew4 hown4); have HF4 : Hid (Fr No w w4) := (((HF1.out.trans HF2.out).trans HF3.out).trans' hfr4 (fun i hi hlt => by have hi : _ = some i := hi; have := HN1.out i hi; omega)); have HNW : Hid (∀ k, (Value.slice A4 (a.length + r.length) c4).ownBlock = some k → w.heap.size ≤ k) := (fun k hk => by (rcases hnew4 with h | h); (· rw [h] at hk; exact HN1.out k hk); (· rw [h] at hk; simp only [Option.some.injEq] at hk; have h1 := HF1.out.size; have h2 := HF2.out.size; have h3 := HF3.out.size; omega)); clear hown4 hfr4 hnew4) | fail)
    (with_reducible refine (H4.out _ _ _ _ HF4.out HON.out).mono ?_)
    rintro e w5 ⟨rfl, hf5⟩
    go_wp2
    go_ret2
    exact ⟨none, 0, rfl, OwnN.nil _ _, HF4.out.trans hf5, fun k hk => by cases hk⟩
  cases r2
  · rw [show (true && false) = false from rfl, if_neg (by decide)]
    go_enter Try.func14, Try.ntmps14
    go_wp2_with fail
    (with_reducible refine H1.out.mono ?_)
    rintro e w1 ⟨A1, c1, rfl, ho1, hf1, hn1⟩
    go_wp2_with fail
    (with_reducible refine (H2.out _ hf1).mono ?_)
    rintro e w2 ⟨g, m_, rfl, hw2, hf2⟩
    go_wp2_with fail
    (with_reducible refine (H3.out _ _ _ (hf1.trans hf2) hw2).mono ?_)
    rintro e w3 ⟨A3, c3, rfl, ho3, hf3, hn3⟩
    obtain ⟨cells1, hown1, hE1⟩ := ho1
    obtain ⟨cells3, hown3, hE3⟩ := ho3
    have HS3 : Hid (Src Try.prog w3 10 22 (.slice A3 r.length c3) r.length cells3) := Src.of_rd hown3.rd (each_all (P := fun y => y.oneCell' = true) (by omega) hE3 odrf_one) Try.underlying22
    have HO1 := Lib.hid hown1
    have HE1 := Lib.hid hE1
    have HE3 := Lib.hid hE3
    have HF1 := Lib.hid hf1
    have HF2 := Lib.hid hf2
    have HF3 := Lib.hid hf3
    have HN1 := Lib.hid hn1
    have HNC : Hid (m_ = m_) := rfl
    clear hown1 hE1 hE3 hf1 hf2 hf3 hn1 hn3 hw2 hown3
    go_wp2_with (first | (at_builtin; refine wpList_app _ rfl (.tmp 8) (.tmp 12) 22 22 rfl elO (HO1.out.fr (HF2.out.trans HF3.out) (fun _ _ h => h)) rfl HS3.out rfl (by have := HBN.out; simp only [maxLen]; omega) (by have := HBN.out; omega) ?_; intro v4 w4 hown4 hfr4 hnew4; obtain ⟨A4, c4, rfl, hc4, hd4⟩ := hown4.form; have HON := Lib.hid (HAP.out _ _ _ _ _ _ _ _ _ HO1.out HE1.out HF1.out HF2.out HF3.out HE3.out hfr4 hnew4 hown4); have HF4 : Hid (Fr No w w4) := (((HF1.out.trans HF2.out).trans HF3.out).trans' hfr4 (fun i hi hlt => by have hi : _ = some i := hi; have := HN1.out i hi; omega)); have HNW : Hid (∀ k, (Value.slice A4 (a.length + r.length) c4).ownBlock = some k → w.heap.size ≤ k) := (fun k hk => by (rcases hnew4 with h | h); (· rw [h] at hk; exact HN1.out k hk); (· rw [h] at hk; simp only [Option.some.injEq] at hk; have h1 := HF1.out.size; have h2 := HF2.out.size; have h3 := HF3.out.size; omega)); clear hown4 hfr4 hnew4) | fail)
    (with_reducible refine (H4.out _ _ _ _ HF4.out HON.out).mono ?_)
    rintro e w5 ⟨rfl, hf5⟩
    go_wp2_with fail
    (with_reducible refine (H5.out _ _ _ _ (HF4.out.trans hf5) (HON.out.no hf5)).mono ?_)
    rintro e w6 ⟨rfl, hf6⟩
    go_wp2
    go_ret2
    exact ⟨none, 0, rfl, OwnN.nil _ _, (HF4.out.trans hf5).trans hf6, fun k hk => by cases hk⟩
  · rw [show (true && true) = true from rfl, if_pos rfl]
    go_enter Try.func14, Try.ntmps14
    go_wp2_with fail
    (with_reducible refine H1.out.mono ?_)
    rintro e w1 ⟨A1, c1, rfl, ho1, hf1, hn1⟩
    go_wp2_with fail
    (with_reducible refine (H2.out _ hf1).mono ?_)
    rintro e w2 ⟨g, m_, rfl, hw2, hf2⟩
    go_wp2_with fail
    (with_reducible refine (H3.out _ _ _ (hf1.trans hf2) hw2).mono ?_)
    rintro e w3 ⟨A3, c3, rfl, ho3, hf3, hn3⟩
    obtain ⟨cells1, hown1, hE1⟩ := ho1
    obtain ⟨cells3, hown3, hE3⟩ := ho3
    have HS3 : Hid (Src Try.prog w3 10 22 (.slice A3 r.length c3) r.length cells3) := Src.of_rd hown3.rd (each_all (P := fun y => y.oneCell' = true) (by omega) hE3 odrf_one) Try.underlying22
    have HO1 := Lib.hid hown1
    have HE1 := Lib.hid hE1
    have HE3 := Lib.hid hE3
    have HF1 := Lib.hid hf1
    have HF2 := Lib.hid hf2
    have HF3 := Lib.hid hf3
    have HN1 := Lib.hid hn1
    have HNC : Hid (m_ = m_) := rfl
    clear hown1 hE1 hE3 hf1 hf2 hf3 hn1 hn3 hw2 hown3
    go_wp2_with (first | (at_builtin; refine wpList_app _ rfl (.tmp 8) (.tmp 12) 22 22 rfl elO (HO1.out.fr (HF2.out.trans HF3.out) (fun _ _ h => h)) rfl HS3.out rfl (by have := HBN.out; simp only [maxLen]; omega) (by have := HBN.out; omega) ?_; intro v4 w4 hown4 hfr4 hnew4; obtain ⟨A4, c4, rfl, hc4, hd4⟩ := hown4.form; have HON := Lib.hid (HAP.out _ _ _ _ _ _ _ _ _ HO1.out HE1.out HF1.out HF2.out HF3.out HE3.out hfr4 hnew4 hown4); have HF4 : Hid (Fr No w w4) := (((HF1.out.trans HF2.out).trans HF3.out).trans' hfr4 (fun i hi hlt => by have hi : _ = some i := hi; have := HN1.out i hi; omega)); have HNW : Hid (∀ k, (Value.slice A4 (a.length + r.length) c4).ownBlock = some k → w.heap.size ≤ k) := (fun k hk => by (rcases hnew4 with h | h); (· rw [h] at hk; exact HN1.out k hk); (· rw [h] at hk; simp only [Option.some.injEq] at hk; have h1 := HF1.out.size; have h2 := HF2.out.size; have h3 := HF3.out.size; omega)); clear hown4 hfr4 hnew4) | fail)
    (with_reducible refine (H4.out _ _ _ _ HF4.out HON.out).mono ?_)
    rintro e w5 ⟨rfl, hf5⟩
    go_wp2_with fail
    (with_reducible refine (H5.out _ _ _ _ (HF4.out.trans hf5) (HON.out.no hf5)).mono ?_)
    rintro e w6 ⟨rfl, hf6⟩
    go_wp2
    go_ret2
    refine ⟨A4, c4, by rw [HML.out]; rfl, ?_, (HF4.out.trans hf5).trans hf6, ?_⟩
    · rw [HML.out]
      exact (HON.out.no hf5).no hf6
    · rw [HML.out]
      exact HNW.out
end Go.Proofs.Ytkkhdjchfhmliaa

namespace Go.Proofs.Ytkkhdjchfhmliaa
open Go.RowKit Go.My Go.Maps Go.WideMaps
set_option linter.unusedSimpArgs false
set_option linter.unusedVariables false
attribute [local go_sem ↓] Go.wp_at_zero Go.wp_at_succ

/-- some cells written into a row -/
def putL (cur : List Value) (o : Nat) (cs : List Value) : List Value := cur.take o ++ cs ++ cur.drop (o + cs.length)
theorem putL_length {cur cs : List Value} {o : Nat} (h : o + cs.length ≤ cur.length) : (putL cur o cs).length = cur.length := by
  unfold putL
  rw [List.length_append, List.length_append, List.length_take, List.length_drop]
  omega
theorem putL_get {cur cs : List Value} {o : Nat} (h : o + cs.length ≤ cur.length) (j : Nat) : (putL cur o cs)[j]? = if j < o then cur[j]? else if j < o + cs.length then cs[j - o]? else cur[j]? := by
  unfold putL
  have hl : (cur.take o).length = o := by rw [List.length_take]; omega
  rw [List.append_assoc, List.getElem?_append, hl]
  by_cases h1 : j < o
  · rw [if_pos h1, if_pos h1, List.getElem?_take, if_pos h1]
  · rw [if_neg h1, if_neg h1, List.getElem?_append]
    by_cases h2 : j < o + cs.length
    · rw [if_pos (by omega), if_pos h2]
    · rw [if_neg (by omega), if_neg h2, List.getElem?_drop]
      congr 1
      omega
theorem putL_take {cur cs : List Value} {o n : Nat} (h : o + cs.length ≤ n) (hn : n ≤ cur.length) : (putL cur o cs).take n = putL (cur.take n) o cs := by
  apply List.ext_getElem?
  intro j
  rw [List.getElem?_take, putL_get (by omega), putL_get (by rw [List.length_take]; omega), List.getElem?_take]
  by_cases hj : j < n
  · rw [if_pos hj, if_pos hj]
  · rw [if_neg hj, if_neg hj, if_neg (by omega), if_neg (by omega)]
theorem each_set {α : Type} {R : List Value → α → Prop} {n : Nat} {cells cs : List Value} {l : List α} (h : Each R n cells l) (i : Nat) (hi : i < l.length) (hc : cs.length = n) (x : α) (hx : R cs x) : Each R n (putL cells (i * n) cs) (l.set i x) := by
  have hb : ∀ j, j < l.length → j * n + n ≤ cells.length := fun j hj => by
    rw [h.1]
    have := Nat.mul_le_mul_right n (show j + 1 ≤ l.length from hj)
    rw [Nat.add_mul] at this
    omega
  have hfit : i * n + cs.length ≤ cells.length := by rw [hc]; exact hb i hi
  refine ⟨by rw [putL_length hfit, h.1, List.length_set], fun j y hy => ?_⟩
  rw [List.getElem?_set] at hy
  have key : ∀ m, m < n → ((putL cells (i * n) cs).drop (j * n))[m]? = if j = i then cs[m]? else cells[j * n + m]? := fun m hm => by
    rw [List.getElem?_drop, putL_get hfit]
    by_cases e : j = i
    · subst e
      rw [if_neg (by omega), if_pos (by omega), if_pos rfl]
      congr 1
      omega
    · rw [if_neg e]
      rcases Nat.lt_or_gt_of_ne e with h1 | h1
      · have := Nat.mul_le_mul_right n (show j + 1 ≤ i from h1)
        rw [Nat.add_mul] at this
        rw [if_pos (by omega)]
      · have := Nat.mul_le_mul_right n (show i + 1 ≤ j from h1)
        rw [Nat.add_mul] at this
        rw [if_neg (by omega), if_neg (by omega)]
  by_cases e : i = j
  · subst e
    rw [if_pos rfl, if_pos hi] at hy
    injection hy with hy
    subst hy
    have : ((putL cells (i * n) cs).drop (i * n)).take n = cs := by
      apply List.ext_getElem?
      intro m
      rw [List.getElem?_take]
      by_cases hm : m < n
      · rw [if_pos hm, key m hm, if_pos rfl]
      · rw [if_neg hm, List.getElem?_eq_none (by omega)]
    rw [this]
    exact hx
  · rw [if_neg e] at hy
    have h2 := h.2 j y hy
    have : ((putL cells (i * n) cs).drop (j * n)).take n = (cells.drop (j * n)).take n := by
      apply List.ext_getElem?
      intro m
      rw [List.getElem?_take, List.getElem?_take]
      by_cases hm : m < n
      · rw [if_pos hm, if_pos hm, key m hm, if_neg (fun k => e k.symm), List.getElem?_drop]
      · rw [if_neg hm, if_neg hm]
    rw [this]
    exact h2
theorem blk_setL {w : World} {g o : Nat} {t : TypeId} {cur : Array Value} (h : Blk w g t cur) (ho : o + 10 ≤ cur.size) (a0 a1 a2 a3 a4 a5 a6 a7 a8 a9 : Value) : Blk ((((((((((w.setCell ⟨g, o, none⟩ a0).setCell ⟨g, o + 1, none⟩ a1).setCell ⟨g, o + 2, none⟩ a2).setCell ⟨g, o + 3, none⟩ a3).setCell ⟨g, o + 4, none⟩ a4).setCell ⟨g, o + 5, none⟩ a5).setCell ⟨g, o + 6, none⟩ a6).setCell ⟨g, o + 7, none⟩ a7).setCell ⟨g, o + 8, none⟩ a8).setCell ⟨g, o + 9, none⟩ a9) g t (putL cur.toList o [a0, a1, a2, a3, a4, a5, a6, a7, a8, a9]).toArray := by
  have h0 := h.set_ o a0
  have h1 := h0.set_ (o + 1) a1
  have h2 := h1.set_ (o + 2) a2
  have h3 := h2.set_ (o + 3) a3
  have h4 := h3.set_ (o + 4) a4
  have h5 := h4.set_ (o + 5) a5
  have h6 := h5.set_ (o + 6) a6
  have h7 := h6.set_ (o + 7) a7
  have h8 := h7.set_ (o + 8) a8
  have h9 := h8.set_ (o + 9) a9
  have e : ((((((((((cur.setIfInBounds o a0).setIfInBounds (o + 1) a1).setIfInBounds (o + 2) a2).setIfInBounds (o + 3) a3).setIfInBounds (o + 4) a4).setIfInBounds (o + 5) a5).setIfInBounds (o + 6) a6).setIfInBounds (o + 7) a7).setIfInBounds (o + 8) a8).setIfInBounds (o + 9) a9) = (putL cur.toList o [a0, a1, a2, a3, a4, a5, a6, a7, a8, a9]).toArray := by
    apply Array.ext_getElem?
    intro j
    have hl : o + [a0, a1, a2, a3, a4, a5, a6, a7, a8, a9].length ≤ cur.toList.length := by simpa using ho
    conv => rhs; rw [List.getElem?_toArray, putL_get hl]
    simp only [Array.getElem?_setIfInBounds, Array.size_setIfInBounds, List.length_cons, List.length_nil, Array.getElem?_toList]
    by_cases h1 : j < o
    · rw [if_pos h1]
      repeat rw [if_neg (by omega)]
    · rw [if_neg h1]
      by_cases h2 : j < o + (0 + 1 + 1 + 1 + 1 + 1 + 1 + 1 + 1 + 1 + 1)
      · rw [if_pos h2]
        obtain ⟨d, rfl⟩ : ∃ d, j = o + d := ⟨j - o, by omega⟩
        rw [Nat.add_sub_cancel_left]
        have hd : d = 0 ∨ d = 1 ∨ d = 2 ∨ d = 3 ∨ d = 4 ∨ d = 5 ∨ d = 6 ∨ d = 7 ∨ d = 8 ∨ d = 9 := by omega
        rcases hd with rfl | rfl | rfl | rfl | rfl | rfl | rfl | rfl | rfl | rfl <;> simp <;> omega
      · rw [if_neg h2]
        repeat rw [if_neg (by omega)]
  rw [← e]
  exact h9
theorem fr_setL (w : World) (g o : Nat) (a0 a1 a2 a3 a4 a5 a6 a7 a8 a9 : Value) : Fr (At1 g) w ((((((((((w.setCell ⟨g, o, none⟩ a0).setCell ⟨g, o + 1, none⟩ a1).setCell ⟨g, o + 2, none⟩ a2).setCell ⟨g, o + 3, none⟩ a3).setCell ⟨g, o + 4, none⟩ a4).setCell ⟨g, o + 5, none⟩ a5).setCell ⟨g, o + 6, none⟩ a6).setCell ⟨g, o + 7, none⟩ a7).setCell ⟨g, o + 8, none⟩ a8).setCell ⟨g, o + 9, none⟩ a9) := (((((((((fr_set w g o a0).trans (fr_set _ g (o + 1) a1)).trans (fr_set _ g (o + 2) a2)).trans (fr_set _ g (o + 3) a3)).trans (fr_set _ g (o + 4) a4)).trans (fr_set _ g (o + 5) a5)).trans (fr_set _ g (o + 6) a6)).trans (fr_set _ g (o + 7) a7)).trans (fr_set _ g (o + 8) a8)).trans (fr_set _ g (o + 9) a9)
/-- an order written into a row of the call's own -/
theorem OwnN.put1 {B : Nat} {w : World} {g n c k : Nat} {l : List Od} {o : Od} {vo : Value} (h : OwnN B w (.slice (some ⟨g, 0, none⟩) n c) l) (hk : k < l.length) (hok : o.ok) (hgs : ∀ x ∈ o.legs, x.ok) (hL : LgS w (New B w (some g)) vo o.legs) :
    OwnN B ((((((((((w.setCell ⟨g, k * 10, none⟩ (.int .i64 o.cl)).setCell ⟨g, k * 10 + 1, none⟩ (.int .i64 o.sq)).setCell ⟨g, k * 10 + 2, none⟩ (.int .i64 o.kd)).setCell ⟨g, k * 10 + 3, none⟩ (.string o.acct)).setCell ⟨g, k * 10 + 4, none⟩ (.string o.peer)).setCell ⟨g, k * 10 + 5, none⟩ (.int .i64 o.sum)).setCell ⟨g, k * 10 + 6, none⟩ vo).setCell ⟨g, k * 10 + 7, none⟩ (.int .i64 o.per)).setCell ⟨g, k * 10 + 8, none⟩ (.int .i64 o.hold)).setCell ⟨g, k * 10 + 9, none⟩ (.string o.note)) (.slice (some ⟨g, 0, none⟩) n c) (l.set k o) ∧ Fr (At1 g) w ((((((((((w.setCell ⟨g, k * 10, none⟩ (.int .i64 o.cl)).setCell ⟨g, k * 10 + 1, none⟩ (.int .i64 o.sq)).setCell ⟨g, k * 10 + 2, none⟩ (.int .i64 o.kd)).setCell ⟨g, k * 10 + 3, none⟩ (.string o.acct)).setCell ⟨g, k * 10 + 4, none⟩ (.string o.peer)).setCell ⟨g, k * 10 + 5, none⟩ (.int .i64 o.sum)).setCell ⟨g, k * 10 + 6, none⟩ vo).setCell ⟨g, k * 10 + 7, none⟩ (.int .i64 o.per)).setCell ⟨g, k * 10 + 8, none⟩ (.int .i64 o.hold)).setCell ⟨g, k * 10 + 9, none⟩ (.string o.note)) := by
  have hf := fr_setL w g (k * 10) (.int .i64 o.cl) (.int .i64 o.sq) (.int .i64 o.kd) (.string o.acct) (.string o.peer) (.int .i64 o.sum) vo (.int .i64 o.per) (.int .i64 o.hold) (.string o.note)
  refine ⟨?_, hf⟩
  obtain ⟨cells, ⟨hlen, hown⟩, hE⟩ := h
  rcases hown with ⟨_, h0⟩ | ⟨g', cap, cur, hv, hg, hle, hcm, hcs, ht⟩
  · omega
  injection hv with hv1 hv2 hv3
  injection hv1 with hv1
  injection hv1 with hv1 _
  subst hv1 hv2 hv3
  have hb2 : Blk w g 40 cur := hg
  have hkk : k * 10 + 10 ≤ l.length * 10 := by omega
  have hb3 := blk_setL hb2 (o := k * 10) (by omega) (.int .i64 o.cl) (.int .i64 o.sq) (.int .i64 o.kd) (.string o.acct) (.string o.peer) (.int .i64 o.sum) vo (.int .i64 o.per) (.int .i64 o.hold) (.string o.note)
  generalize ((((((((((w.setCell ⟨g, k * 10, none⟩ (.int .i64 o.cl)).setCell ⟨g, k * 10 + 1, none⟩ (.int .i64 o.sq)).setCell ⟨g, k * 10 + 2, none⟩ (.int .i64 o.kd)).setCell ⟨g, k * 10 + 3, none⟩ (.string o.acct)).setCell ⟨g, k * 10 + 4, none⟩ (.string o.peer)).setCell ⟨g, k * 10 + 5, none⟩ (.int .i64 o.sum)).setCell ⟨g, k * 10 + 6, none⟩ vo).setCell ⟨g, k * 10 + 7, none⟩ (.int .i64 o.per)).setCell ⟨g, k * 10 + 8, none⟩ (.int .i64 o.hold)).setCell ⟨g, k * 10 + 9, none⟩ (.string o.note)) = w' at *
  have hcs2 : (o.cs vo).length = 10 := rfl
  have hfit : k * 10 + (o.cs vo).length ≤ cells.length := by rw [hcs2, hlen]; exact hkk
  have hfit2 : k * 10 + (o.cs vo).length ≤ cur.toList.length := by rw [hcs2, Array.length_toList]; omega
  have hb3 : w'.heap[g]? = some (.cells (putL cur.toList (k * 10) (o.cs vo)).toArray 40 (0, 0)) := hb3
  refine ⟨putL cells (k * 10) (o.cs vo), ⟨by rw [putL_length hfit, hlen, List.length_set], .inr ⟨g, c, _, by rw [List.length_set], hb3, by rw [List.length_set]; exact hle, hcm, ?_, ?_⟩⟩, ?_⟩
  · rw [List.size_toArray, putL_length hfit2, Array.length_toList]
    exact hcs
  · rw [List.length_set]
    show (putL cur.toList (k * 10) (o.cs vo)).take (l.length * 10) = _
    have hcc : cur.toList.length = cur.size := Array.length_toList
    rw [putL_take (by rw [hcs2]; exact hkk) (by omega), ht]
  · have hN : ∀ j, New B w (some g) j → New B w' (some g) j := fun j hj => ⟨hj.1, Nat.lt_of_lt_of_le hj.2.1 hf.size, hj.2.2⟩
    have hS : ∀ j, New B w (some g) j → j < w.heap.size → ¬ At1 g j := fun j hj _ e => hj.2.2 (by rw [show j = g from e])
    exact each_set (R := OdRF w' (New B w' (some g))) (each_imp hE fun cs o ⟨v, k1, k2, k3, k4⟩ => ⟨v, k1, k2, k3, (k4.frS hf hS).more hN⟩) k hk hcs2 o ⟨vo, rfl, hok, hgs, (hL.frS hf hS).more hN⟩
/-- an order of a row of the call's own -/
theorem OwnN.at_ {B : Nat} {w : World} {g n c : Nat} {l : List Od} (h : OwnN B w (.slice (some ⟨g, 0, none⟩) n c) l) (k : Nat) (hk : k < l.length) :
    ∃ v, l[k].ok ∧ (∀ x ∈ l[k].legs, x.ok) ∧ LgS w (New B w (some g)) v l[k].legs ∧ ∀ i u, i < 10 → (l[k].cs v)[i]? = some u → w.cell? ⟨g, k * 10 + i, none⟩ = some u := by
  obtain ⟨cells, ⟨hlen, hown⟩, _, hEc⟩ := h
  rcases hown with ⟨_, h0⟩ | ⟨g', cap, cur, hv, hg, hle, hcm, hcs, ht⟩
  · omega
  injection hv with hv1 hv2 hv3
  injection hv1 with hv1
  injection hv1 with hv1 _
  subst hv1 hv2 hv3
  obtain ⟨v, hc, h1, h2, h3⟩ := hEc k l[k] (List.getElem?_eq_getElem hk)
  refine ⟨v, h1, h2, h3, fun i u hi hu => ?_⟩
  rw [← hc, List.getElem?_take, if_pos hi, List.getElem?_drop] at hu
  rw [cell_of_row w g _ cur 40 (0, 0) hg]
  rw [← ht, List.getElem?_take] at hu
  split at hu
  · simpa using hu
  · cases hu
end Go.Proofs.Ytkkhdjchfhmliaa
