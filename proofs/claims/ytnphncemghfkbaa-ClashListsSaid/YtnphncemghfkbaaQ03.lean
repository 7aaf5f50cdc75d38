/- clash.Meet. An order written into a row of the call's own. clash.Swap. What the laws on clashes call first: in lists. What the laws on clashes call first: the walk. -/
import Derived.Test.YtnphncemghfkbaaQ02
import Derived.Deep.RegionWith
import Derived.Deep.RegionLaw
namespace Go.Proofs.Ytnphncemghfkbaa
open Go.RowKit Go.My Go.Maps Go.WideMaps
set_option linter.unusedSimpArgs false
set_option linter.unusedVariables false
attribute [local go_sem ↓] Go.wp_at_zero Go.wp_at_succ

theorem each_all {α : Type} {R : List Value → α → Prop} {P : Value → Prop} {n : Nat} {cells : List Value} {l : List α} (hn : 0 < n) (h : Each R n cells l) (hR : ∀ cs x, R cs x → ∀ y ∈ cs, P y) : ∀ y ∈ cells, P y := by
  intro y hy
  obtain ⟨j, hj, rfl⟩ := List.mem_iff_getElem.1 hy
  have hlen := h.1
  have hi : j / n < l.length := by
    rw [Nat.div_lt_iff_lt_mul hn]
    omega
  have h2 := hR _ _ (h.2 (j / n) l[j / n] (List.getElem?_eq_getElem hi))
  apply h2
  rw [List.mem_iff_getElem?]
  refine ⟨j % n, ?_⟩
  rw [List.getElem?_take, if_pos (Nat.mod_lt _ hn), List.getElem?_drop]
  have e : j / n * n + j % n = j := by rw [Nat.mul_comm]; exact Nat.div_add_mod j n
  rw [e, List.getElem?_eq_getElem hj]
theorem each_append {α : Type} {R : List Value → α → Prop} {n : Nat} {cells cells2 : List Value} {l m : List α} (h : Each R n cells l) (h2 : Each R n cells2 m) : Each R n (cells ++ cells2) (l ++ m) := by
  refine ⟨by rw [List.length_append, h.1, h2.1, List.length_append, Nat.add_mul], fun i x hx => ?_⟩
  by_cases hi : i < l.length
  · rw [List.getElem?_append_left hi] at hx
    have h1 := h.2 i x hx
    have h3 : i * n + n ≤ cells.length := by rw [h.1]; have := Nat.mul_le_mul_right n (show i + 1 ≤ l.length from hi); rw [Nat.add_mul] at this; omega
    rw [List.drop_append_of_le_length (by omega), List.take_append_of_le_length (by rw [List.length_drop]; omega)]
    exact h1
  · rw [List.getElem?_append_right (by omega)] at hx
    have h1 := h2.2 _ x hx
    have e : i * n = cells.length + (i - l.length) * n := by
      rw [h.1, ← Nat.add_mul]
      congr 1
      omega
    rw [e, List.drop_append, List.drop_of_length_le (by omega), Nat.add_sub_cancel_left, List.nil_append]
    exact h1
theorem odrf_one {w : World} {F : Nat → Prop} (cs : List Value) (o : Od) (h : OdRF w F cs o) : ∀ y ∈ cs, y.oneCell' = true := by
  obtain ⟨v, rfl, _, _, hv⟩ := h
  obtain ⟨A, c, rfl, _, _⟩ := hv.form
  intro y hy
  unfold Od.cs at hy
  simp only [List.mem_cons, List.not_mem_nil, or_false] at hy
  rcases hy with rfl | rfl | rfl | rfl | rfl | rfl | rfl | rfl | rfl | rfl <;> rfl
set_option maxRecDepth 100000 in
set_option maxHeartbeats 1000000 in
theorem meetC_any (w : World) (F G : Nat → Prop) (A B : Option Addr) (c d : Nat) (a b : List Od) (ha : Ls w F A c a) (hb : Ls w G B d b) (hab : a.length + b.length ≤ 1000000) :
    Calls Try.prog 8 #[.slice A a.length c, .slice B b.length d] w (RetN2 w (retMeet a b) (meetB a b)) := by
  have H1 := Lib.hid (copyAll_any w F A c a ha.ods ha.n ha.s)
  have H2 : Hid (∀ W, Fr No w W → Calls Try.prog 27 #[.slice A a.length c] W fun e w' => ∃ g m, e = .returned (woV g) ∧ WoS w' g m (idsO a) ∧ Fr No W w') := fun W hW => without_any W W F A c a (ha.no hW).ods ha.n
  have H3 : Hid (∀ W g m, Fr No w W → WoS W g m (idsO a) → Calls Try.prog 26 #[.slice B b.length d, woV g] W (RetN W (outO a b))) := fun W g m hW hw => by
    rw [← out_left]
    exact kept_any W G B d b g m (idsO a) (hb.no hW).ods hb.n hb.s hw
  have HLE : Hid ((outO a b).length ≤ b.length) := by
    show _ ≤ _
    unfold outO others
    exact List.length_filter_le _ _
  have H4 : Hid (∀ W A1 c1 B1, Fr No w W → OwnN B1 W (.slice A1 (a.length + (outO a b).length) c1) (meetO a b) → Calls Try.prog 12 #[.slice A a.length c, .slice A1 (a.length + (outO a b).length) c1] W fun e w' => e = .returned (.bool (beginsB a (meetO a b))) ∧ Fr No W w') := fun W A1 c1 B1 hW ho => by
    have hle := HLE.out
    have hlen : (meetO a b).length = a.length + (outO a b).length := by unfold meetO; rw [List.length_append]
    obtain ⟨A2, c2, e2, hc1, hc2⟩ := ho.form
    rw [hlen] at e2
    injection e2 with e3 e4 e5
    subst e3 e5
    have h := beginsC_any W F _ A A1 c c1 a (meetO a b) (ha.no hW) ⟨ho.ods, by rw [hlen]; omega, hc1, fun o ho => by
      unfold meetO outO at ho
      rcases List.mem_append.1 ho with ho | ho
      · exact ha.s o ho
      · exact hb.s o (mem_others.1 ho).1⟩
    rw [hlen] at h
    exact h
  have H5 : Hid (∀ W A1 c1 B1, Fr No w W → OwnN B1 W (.slice A1 (a.length + (outO a b).length) c1) (meetO a b) → Calls Try.prog 12 #[.slice B b.length d, .slice A1 (a.length + (outO a b).length) c1] W fun e w' => e = .returned (.bool (beginsB b (meetO a b))) ∧ Fr No W w') := fun W A1 c1 B1 hW ho => by
    have hle := HLE.out
    have hlen : (meetO a b).length = a.length + (outO a b).length := by unfold meetO; rw [List.length_append]
    obtain ⟨A2, c2, e2, hc1, hc2⟩ := ho.form
    rw [hlen] at e2
    injection e2 with e3 e4 e5
    subst e3 e5
    have h := beginsC_any W G _ B A1 d c1 b (meetO a b) (hb.no hW) ⟨ho.ods, by rw [hlen]; omega, hc1, fun o ho => by
      unfold meetO outO at ho
      rcases List.mem_append.1 ho with ho | ho
      · exact ha.s o ho
      · exact hb.s o (mem_others.1 ho).1⟩
    rw [hlen] at h
    exact h
  have HML : Hid ((meetO a b).length = a.length + (outO a b).length) := by show _ = _; unfold meetO; rw [List.length_append]
  have HAP : Hid (∀ (w1 w2 w3 w4 : World) (v1 v2 v4 : Value) (cells1 cells2 : List Value), Own w1 30 10 v1 a.length cells1 → Each (OdRF w1 (New w.heap.size w1 v1.ownBlock)) 10 cells1 a → Fr No w w1 → Fr No w1 w2 → Fr No w2 w3 → Each (OdRF w3 (New w2.heap.size w3 v2.ownBlock)) 10 cells2 (outO a b) → Fr (AtO v1.ownBlock) w3 w4 → (v4.ownBlock = v1.ownBlock ∨ v4.ownBlock = some w3.heap.size) → Own w4 30 10 v4 (a.length + (outO a b).length) (cells1 ++ cells2) → OwnN w.heap.size w4 v4 (meetO a b)) := fun w1 w2 w3 w4 v1 v2 v4 cells1 cells2 ho1 hE1 hf1 hf2 hf3 hE2 hf4 hn ho4 => by
    have s1 := hf1.size
    have s2 := hf2.size
    have s3 := hf3.size
    have s4 := hf4.size
    refine ⟨cells1 ++ cells2, by rw [HML.out]; exact ho4, ?_⟩
    refine each_append (each_imp hE1 fun cs o ⟨v, k1, k2, k3, k4⟩ => ⟨v, k1, k2, k3, ((k4.no (hf2.trans hf3)).frS hf4 fun k hk _ e => hk.2.2 e).more fun k hk => ⟨hk.1, by have := hk.2.1; omega, fun e => ?_⟩⟩) (each_imp hE2 fun cs o ⟨v, k1, k2, k3, k4⟩ => ⟨v, k1, k2, k3, (k4.frS hf4 fun k hk _ e => ?_).more fun k hk => ⟨by have := hk.1; omega, by have := hk.2.1; omega, fun e => ?_⟩⟩)
    · rcases hn with hn | hn
      · rw [hn] at e
        exact hk.2.2 e
      · rw [hn] at e
        simp only [Option.some.injEq] at e
        have := hk.2.1
        omega
    · have := ho1.lt k e
      have := hk.1
      omega
    · rcases hn with hn | hn
      · rw [hn] at e
        have := ho1.lt k e
        have := hk.1
        omega
      · rw [hn] at e
        simp only [Option.some.injEq] at e
        have := hk.2.1
        omega
  have HBN : Hid (a.length + (outO a b).length ≤ 1000000) := by show _ ≤ _; have := HLE.out; omega
  unfold retMeet meetB
  have HLA := Lib.hid ha.c
  clear ha hb hab
  generalize beginsB a (meetO a b) = r1 at *
  generalize beginsB b (meetO a b) = r2 at *
  generalize hml : meetO a b = m at *
  generalize outO a b = r at *
  cases r1
  · rw [show (false && r2) = false from rfl, if_neg (by decide)]
    go_enter Try.func8, Try.ntmps8
    go_wp2_with fail
    (with_reducible refine H1.out.mono ?_)
    rintro e w1 ⟨A1, c1, rfl, ho1, hf1, hn1⟩
    go_wp2_with fail
    (with_reducible refine (H2.out _ hf1).mono ?_)
    rintro e w2 ⟨g, m_, rfl, hw2, hf2⟩
    go_wp2_with fail
    (with_reducible refine (H3.out _ _ _ (hf1.trans hf2) hw2).mono ?_)
    rintro e w3 ⟨A3, c3, rfl, ho3, hf3, hn3⟩
    obtain ⟨cells1, hown1, hE1⟩ := ho1
    obtain ⟨cells3, hown3, hE3⟩ := ho3
    have HS3 : Hid (Src Try.prog w3 10 22 (.slice A3 r.length c3) r.length cells3) := Src.of_rd hown3.rd (each_all (P := fun y => y.oneCell' = true) (by omega) hE3 odrf_one) Try.underlying22
    have HO1 := Lib.hid hown1
    have HE1 := Lib.hid hE1
    have HE3 := Lib.hid hE3
    have HF1 := Lib.hid hf1
    have HF2 := Lib.hid hf2
    have HF3 := Lib.hid hf3
    have HN1 := Lib.hid hn1
    have HNC : Hid (m_ = m_) := rfl
    clear hown1 hE1 hE3 hf1 hf2 hf3 hn1 hn3 hw2 hown3
    go_wp2_with (first | (at_builtin; refine wpList_app _ rfl (.tmp 8) (.tmp 12) 22 22 rfl elO (HO1.out.fr (HF2.out.trans HF3.out) (fun _ _ h => h)) rfl HS3.out rfl (by have := HBN.out; simp only [maxLen]; omega) (by have := HBN.out; omega) ?_; intro v4 w4 hown4 hfr4 hnew4; obtain ⟨A4, c4, rfl, hc4, hd4⟩ := hown4.form; have HON := Lib.hid (HAP.out _ _ _ _ _ _ _ _ _ HO1.out HE1.out HF1.out HF2.out HF3.out HE3.out hfr4 hnew4 hown4); have HF4 : Hid (Fr No w w4) := (((HF1.out.trans HF2.out).trans HF3.out).trans' hfr4 (fun i hi hlt => by have hi : _ = some i := hi; have := HN1.out i hi; omega)); have HNW : Hid (∀ k, (Value.slice A4 (a.length + r.length) c4).ownBlock = some k → w.heap.size ≤ k) := (fun k hk => by (rcases hnew4 with h | h); (· rw [h] at hk; exact HN1.out k hk); (· rw [h] at hk; simp only [Option.some.injEq] at hk; have h1 := HF1.out.size; have h2 := HF2.out.size; have h3 := HF3.out.size; omega)); clear hown4 hfr4 hnew4) | fail)
    (with_reducible refine (H4.out _ _ _ _ HF4.out HON.out).mono ?_)
    rintro e w5 ⟨rfl, hf5⟩
    go_wp2
    go_ret2
    exact ⟨none, 0, rfl, OwnN.nil _ _, HF4.out.trans hf5, fun k hk => by cases hk⟩
  cases r2
  · rw [show (true && false) = false from rfl, if_neg (by decide)]
    go_enter Try.func8, Try.ntmps8
    go_wp2_with fail
    (with_reducible refine H1.out.mono ?_)
    rintro e w1 ⟨A1, c1, rfl, ho1, hf1, hn1⟩
    go_wp2_with fail
    (with_reducible refine (H2.out _ hf1).mono ?_)
    rintro e w2 ⟨g, m_, rfl, hw2, hf2⟩
    go_wp2_with fail
    (with_reducible refine (H3.out _ _ _ (hf1.trans hf2) hw2).mono ?_)
    rintro e w3 ⟨A3, c3, rfl, ho3, hf3, hn3⟩
    obtain ⟨cells1, hown1, hE1⟩ := ho1
    obtain ⟨cells3, hown3, hE3⟩ := ho3
    have HS3 : Hid (Src Try.prog w3 10 22 (.slice A3 r.length c3) r.length cells3) := Src.of_rd hown3.rd (each_all (P := fun y => y.oneCell' = true) (by omega) hE3 odrf_one) Try.underlying22
    have HO1 := Lib.hid hown1
    have HE1 := Lib.hid hE1
    have HE3 := Lib.hid hE3
    have HF1 := Lib.hid hf1
    have HF2 := Lib.hid hf2
    have HF3 := Lib.hid hf3
    have HN1 := Lib.hid hn1
    have HNC : Hid (m_ = m_) := rfl
    clear hown1 hE1 hE3 hf1 hf2 hf3 hn1 hn3 hw2 hown3
    go_wp2_with (first | (at_builtin; refine wpList_app _ rfl (.tmp 8) (.tmp 12) 22 22 rfl elO (HO1.out.fr (HF2.out.trans HF3.out) (fun _ _ h => h)) rfl HS3.out rfl (by have := HBN.out; simp only [maxLen]; omega) (by have := HBN.out; omega) ?_; intro v4 w4 hown4 hfr4 hnew4; obtain ⟨A4, c4, rfl, hc4, hd4⟩ := hown4.form; have HON := Lib.hid (HAP.out _ _ _ _ _ _ _ _ _ HO1.out HE1.out HF1.out HF2.out HF3.out HE3.out hfr4 hnew4 hown4); have HF4 : Hid (Fr No w w4) := (((HF1.out.trans HF2.out).trans HF3.out).trans' hfr4 (fun i hi hlt => by have hi : _ = some i := hi; have := HN1.out i hi; omega)); have HNW : Hid (∀ k, (Value.slice A4 (a.length + r.length) c4).ownBlock = some k → w.heap.size ≤ k) := (fun k hk => by (rcases hnew4 with h | h); (· rw [h] at hk; exact HN1.out k hk); (· rw [h] at hk; simp only [Option.some.injEq] at hk; have h1 := HF1.out.size; have h2 := HF2.out.size; have h3 := HF3.out.size; omega)); clear hown4 hfr4 hnew4) | fail)
    (with_reducible refine (H4.out _ _ _ _ HF4.out HON.out).mono ?_)
    rintro e w5 ⟨rfl, hf5⟩
    go_wp2_with fail
    (with_reducible refine (H5.out _ _ _ _ (HF4.out.trans hf5) (HON.out.no hf5)).mono ?_)
    rintro e w6 ⟨rfl, hf6⟩
    go_wp2
    go_ret2
    exact ⟨none, 0, rfl, OwnN.nil _ _, (HF4.out.trans hf5).trans hf6, fun k hk => by cases hk⟩
  · rw [show (true && true) = true from rfl, if_pos rfl]
    go_enter Try.func8, Try.ntmps8
    go_wp2_with fail
    (with_reducible refine H1.out.mono ?_)
    rintro e w1 ⟨A1, c1, rfl, ho1, hf1, hn1⟩
    go_wp2_with fail
    (with_reducible refine (H2.out _ hf1).mono ?_)
    rintro e w2 ⟨g, m_, rfl, hw2, hf2⟩
    go_wp2_with fail
    (with_reducible refine (H3.out _ _ _ (hf1.trans hf2) hw2).mono ?_)
    rintro e w3 ⟨A3, c3, rfl, ho3, hf3, hn3⟩
    obtain ⟨cells1, hown1, hE1⟩ := ho1
    obtain ⟨cells3, hown3, hE3⟩ := ho3
    have HS3 : Hid (Src Try.prog w3 10 22 (.slice A3 r.length c3) r.length cells3) := Src.of_rd hown3.rd (each_all (P := fun y => y.oneCell' = true) (by omega) hE3 odrf_one) Try.underlying22
    have HO1 := Lib.hid hown1
    have HE1 := Lib.hid hE1
    have HE3 := Lib.hid hE3
    have HF1 := Lib.hid hf1
    have HF2 := Lib.hid hf2
    have HF3 := Lib.hid hf3
    have HN1 := Lib.hid hn1
    have HNC : Hid (m_ = m_) := rfl
    clear hown1 hE1 hE3 hf1 hf2 hf3 hn1 hn3 hw2 hown3
    go_wp2_with (first | (at_builtin; refine wpList_app _ rfl (.tmp 8) (.tmp 12) 22 22 rfl elO (HO1.out.fr (HF2.out.trans HF3.out) (fun _ _ h => h)) rfl HS3.out rfl (by have := HBN.out; simp only [maxLen]; omega) (by have := HBN.out; omega) ?_; intro v4 w4 hown4 hfr4 hnew4; obtain ⟨A4, c4, rfl, hc4, hd4⟩ := hown4.form; have HON := Lib.hid (HAP.out _ _ _ _ _ _ _ _ _ HO1.out HE1.out HF1.out HF2.out HF3.out HE3.out hfr4 hnew4 hown4); have HF4 : Hid (Fr No w w4) := (((HF1.out.trans HF2.out).trans HF3.out).trans' hfr4 (fun i hi hlt => by have hi : _ = some i := hi; have := HN1.out i hi; omega)); have HNW : Hid (∀ k, (Value.slice A4 (a.length + r.length) c4).ownBlock = some k → w.heap.size ≤ k) := (fun k hk => by (rcases hnew4 with h | h); (· rw [h] at hk; exact HN1.out k hk); (· rw [h] at hk; simp only [Option.some.injEq] at hk; have h1 := HF1.out.size; have h2 := HF2.out.size; have h3 := HF3.out.size; omega)); clear hown4 hfr4 hnew4) | fail)
    (with_reducible refine (H4.out _ _ _ _ HF4.out HON.out).mono ?_)
    rintro e w5 ⟨rfl, hf5⟩
    go_wp2_with fail
    (with_reducible refine (H5.out _ _ _ _ (HF4.out.trans hf5) (HON.out.no hf5)).mono ?_)
    rintro e w6 ⟨rfl, hf6⟩
    go_wp2
    go_ret2
    refine ⟨A4, c4, by rw [HML.out]; rfl, ?_, (HF4.out.trans hf5).trans hf6, ?_⟩
    · rw [HML.out]
      exact (HON.out.no hf5).no hf6
    · rw [HML.out]
      exact HNW.out
end Go.Proofs.Ytnphncemghfkbaa

namespace Go.Proofs.Ytnphncemghfkbaa
open Go.RowKit Go.My Go.Maps Go.WideMaps
set_option linter.unusedSimpArgs false
set_option linter.unusedVariables false
attribute [local go_sem ↓] Go.wp_at_zero Go.wp_at_succ

/-- some cells written into a row -/
def putL (cur : List Value) (o : Nat) (cs : List Value) : List Value := cur.take o ++ cs ++ cur.drop (o + cs.length)
theorem putL_length {cur cs : List Value} {o : Nat} (h : o + cs.length ≤ cur.length) : (putL cur o cs).length = cur.length := by
  unfold putL
  rw [List.length_append, List.length_append, List.length_take, List.length_drop]
  omega
theorem putL_get {cur cs : List Value} {o : Nat} (h : o + cs.length ≤ cur.length) (j : Nat) : (putL cur o cs)[j]? = if j < o then cur[j]? else if j < o + cs.length then cs[j - o]? else cur[j]? := by
  unfold putL
  have hl : (cur.take o).length = o := by rw [List.length_take]; omega
  rw [List.append_assoc, List.getElem?_append, hl]
  by_cases h1 : j < o
  · rw [if_pos h1, if_pos h1, List.getElem?_take, if_pos h1]
  · rw [if_neg h1, if_neg h1, List.getElem?_append]
    by_cases h2 : j < o + cs.length
    · rw [if_pos (by omega), if_pos h2]
    · rw [if_neg (by omega), if_neg h2, List.getElem?_drop]
      congr 1
      omega
theorem putL_take {cur cs : List Value} {o n : Nat} (h : o + cs.length ≤ n) (hn : n ≤ cur.length) : (putL cur o cs).take n = putL (cur.take n) o cs := by
  apply List.ext_getElem?
  intro j
  rw [List.getElem?_take, putL_get (by omega), putL_get (by rw [List.length_take]; omega), List.getElem?_take]
  by_cases hj : j < n
  · rw [if_pos hj, if_pos hj]
  · rw [if_neg hj, if_neg hj, if_neg (by omega), if_neg (by omega)]
theorem each_set {α : Type} {R : List Value → α → Prop} {n : Nat} {cells cs : List Value} {l : List α} (h : Each R n cells l) (i : Nat) (hi : i < l.length) (hc : cs.length = n) (x : α) (hx : R cs x) : Each R n (putL cells (i * n) cs) (l.set i x) := by
  have hb : ∀ j, j < l.length → j * n + n ≤ cells.length := fun j hj => by
    rw [h.1]
    have := Nat.mul_le_mul_right n (show j + 1 ≤ l.length from hj)
    rw [Nat.add_mul] at this
    omega
  have hfit : i * n + cs.length ≤ cells.length := by rw [hc]; exact hb i hi
  refine ⟨by rw [putL_length hfit, h.1, List.length_set], fun j y hy => ?_⟩
  rw [List.getElem?_set] at hy
  have key : ∀ m, m < n → ((putL cells (i * n) cs).drop (j * n))[m]? = if j = i then cs[m]? else cells[j * n + m]? := fun m hm => by
    rw [List.getElem?_drop, putL_get hfit]
    by_cases e : j = i
    · subst e
      rw [if_neg (by omega), if_pos (by omega), if_pos rfl]
      congr 1
      omega
    · rw [if_neg e]
      rcases Nat.lt_or_gt_of_ne e with h1 | h1
      · have := Nat.mul_le_mul_right n (show j + 1 ≤ i from h1)
        rw [Nat.add_mul] at this
        rw [if_pos (by omega)]
      · have := Nat.mul_le_mul_right n (show i + 1 ≤ j from h1)
        rw [Nat.add_mul] at this
        rw [if_neg (by omega), if_neg (by omega)]
  by_cases e : i = j
  · subst e
    rw [if_pos rfl, if_pos hi] at hy
    injection hy with hy
    subst hy
    have : ((putL cells (i * n) cs).drop (i * n)).take n = cs := by
      apply List.ext_getElem?
      intro m
      rw [List.getElem?_take]
      by_cases hm : m < n
      · rw [if_pos hm, key m hm, if_pos rfl]
      · rw [if_neg hm, List.getElem?_eq_none (by omega)]
    rw [this]
    exact hx
  · rw [if_neg e] at hy
    have h2 := h.2 j y hy
    have : ((putL cells (i * n) cs).drop (j * n)).take n = (cells.drop (j * n)).take n := by
      apply List.ext_getElem?
      intro m
      rw [List.getElem?_take, List.getElem?_take]
      by_cases hm : m < n
      · rw [if_pos hm, if_pos hm, key m hm, if_neg (fun k => e k.symm), List.getElem?_drop]
      · rw [if_neg hm, if_neg hm]
    rw [this]
    exact h2
theorem blk_setL {w : World} {g o : Nat} {t : TypeId} {cur : Array Value} (h : Blk w g t cur) (ho : o + 10 ≤ cur.size) (a0 a1 a2 a3 a4 a5 a6 a7 a8 a9 : Value) : Blk ((((((((((w.setCell ⟨g, o, none⟩ a0).setCell ⟨g, o + 1, none⟩ a1).setCell ⟨g, o + 2, none⟩ a2).setCell ⟨g, o + 3, none⟩ a3).setCell ⟨g, o + 4, none⟩ a4).setCell ⟨g, o + 5, none⟩ a5).setCell ⟨g, o + 6, none⟩ a6).setCell ⟨g, o + 7, none⟩ a7).setCell ⟨g, o + 8, none⟩ a8).setCell ⟨g, o + 9, none⟩ a9) g t (putL cur.toList o [a0, a1, a2, a3, a4, a5, a6, a7, a8, a9]).toArray := by
  have h0 := h.set_ o a0
  have h1 := h0.set_ (o + 1) a1
  have h2 := h1.set_ (o + 2) a2
  have h3 := h2.set_ (o + 3) a3
  have h4 := h3.set_ (o + 4) a4
  have h5 := h4.set_ (o + 5) a5
  have h6 := h5.set_ (o + 6) a6
  have h7 := h6.set_ (o + 7) a7
  have h8 := h7.set_ (o + 8) a8
  have h9 := h8.set_ (o + 9) a9
  have e : ((((((((((cur.setIfInBounds o a0).setIfInBounds (o + 1) a1).setIfInBounds (o + 2) a2).setIfInBounds (o + 3) a3).setIfInBounds (o + 4) a4).setIfInBounds (o + 5) a5).setIfInBounds (o + 6) a6).setIfInBounds (o + 7) a7).setIfInBounds (o + 8) a8).setIfInBounds (o + 9) a9) = (putL cur.toList o [a0, a1, a2, a3, a4, a5, a6, a7, a8, a9]).toArray := by
    apply Array.ext_getElem?
    intro j
    have hl : o + [a0, a1, a2, a3, a4, a5, a6, a7, a8, a9].length ≤ cur.toList.length := by simpa using ho
    conv => rhs; rw [List.getElem?_toArray, putL_get hl]
    simp only [Array.getElem?_setIfInBounds, Array.size_setIfInBounds, List.length_cons, List.length_nil, Array.getElem?_toList]
    by_cases h1 : j < o
    · rw [if_pos h1]
      repeat rw [if_neg (by omega)]
    · rw [if_neg h1]
      by_cases h2 : j < o + (0 + 1 + 1 + 1 + 1 + 1 + 1 + 1 + 1 + 1 + 1)
      · rw [if_pos h2]
        obtain ⟨d, rfl⟩ : ∃ d, j = o + d := ⟨j - o, by omega⟩
        rw [Nat.add_sub_cancel_left]
        have hd : d = 0 ∨ d = 1 ∨ d = 2 ∨ d = 3 ∨ d = 4 ∨ d = 5 ∨ d = 6 ∨ d = 7 ∨ d = 8 ∨ d = 9 := by omega
        rcases hd with rfl | rfl | rfl | rfl | rfl | rfl | rfl | rfl | rfl | rfl <;> simp <;> omega
      · rw [if_neg h2]
        repeat rw [if_neg (by omega)]
  rw [← e]
  exact h9
theorem fr_setL (w : World) (g o : Nat) (a0 a1 a2 a3 a4 a5 a6 a7 a8 a9 : Value) : Fr (At1 g) w ((((((((((w.setCell ⟨g, o, none⟩ a0).setCell ⟨g, o + 1, none⟩ a1).setCell ⟨g, o + 2, none⟩ a2).setCell ⟨g, o + 3, none⟩ a3).setCell ⟨g, o + 4, none⟩ a4).setCell ⟨g, o + 5, none⟩ a5).setCell ⟨g, o + 6, none⟩ a6).setCell ⟨g, o + 7, none⟩ a7).setCell ⟨g, o + 8, none⟩ a8).setCell ⟨g, o + 9, none⟩ a9) := (((((((((fr_set w g o a0).trans (fr_set _ g (o + 1) a1)).trans (fr_set _ g (o + 2) a2)).trans (fr_set _ g (o + 3) a3)).trans (fr_set _ g (o + 4) a4)).trans (fr_set _ g (o + 5) a5)).trans (fr_set _ g (o + 6) a6)).trans (fr_set _ g (o + 7) a7)).trans (fr_set _ g (o + 8) a8)).trans (fr_set _ g (o + 9) a9)
/-- an order written into a row of the call's own -/
theorem OwnN.put1 {B : Nat} {w : World} {g n c k : Nat} {l : List Od} {o : Od} {vo : Value} (h : OwnN B w (.slice (some ⟨g, 0, none⟩) n c) l) (hk : k < l.length) (hok : o.ok) (hgs : ∀ x ∈ o.legs, x.ok) (hL : LgS w (New B w (some g)) vo o.legs) :
    OwnN B ((((((((((w.setCell ⟨g, k * 10, none⟩ (.int .i64 o.cl)).setCell ⟨g, k * 10 + 1, none⟩ (.int .i64 o.sq)).setCell ⟨g, k * 10 + 2, none⟩ (.int .i64 o.kd)).setCell ⟨g, k * 10 + 3, none⟩ (.string o.acct)).setCell ⟨g, k * 10 + 4, none⟩ (.string o.peer)).setCell ⟨g, k * 10 + 5, none⟩ (.int .i64 o.sum)).setCell ⟨g, k * 10 + 6, none⟩ vo).setCell ⟨g, k * 10 + 7, none⟩ (.int .i64 o.per)).setCell ⟨g, k * 10 + 8, none⟩ (.int .i64 o.hold)).setCell ⟨g, k * 10 + 9, none⟩ (.string o.note)) (.slice (some ⟨g, 0, none⟩) n c) (l.set k o) ∧ Fr (At1 g) w ((((((((((w.setCell ⟨g, k * 10, none⟩ (.int .i64 o.cl)).setCell ⟨g, k * 10 + 1, none⟩ (.int .i64 o.sq)).setCell ⟨g, k * 10 + 2, none⟩ (.int .i64 o.kd)).setCell ⟨g, k * 10 + 3, none⟩ (.string o.acct)).setCell ⟨g, k * 10 + 4, none⟩ (.string o.peer)).setCell ⟨g, k * 10 + 5, none⟩ (.int .i64 o.sum)).setCell ⟨g, k * 10 + 6, none⟩ vo).setCell ⟨g, k * 10 + 7, none⟩ (.int .i64 o.per)).setCell ⟨g, k * 10 + 8, none⟩ (.int .i64 o.hold)).setCell ⟨g, k * 10 + 9, none⟩ (.string o.note)) := by
  have hf := fr_setL w g (k * 10) (.int .i64 o.cl) (.int .i64 o.sq) (.int .i64 o.kd) (.string o.acct) (.string o.peer) (.int .i64 o.sum) vo (.int .i64 o.per) (.int .i64 o.hold) (.string o.note)
  refine ⟨?_, hf⟩
  obtain ⟨cells, ⟨hlen, hown⟩, hE⟩ := h
  rcases hown with ⟨_, h0⟩ | ⟨g', cap, cur, hv, hg, hle, hcm, hcs, ht⟩
  · omega
  injection hv with hv1 hv2 hv3
  injection hv1 with hv1
  injection hv1 with hv1 _
  subst hv1 hv2 hv3
  have hb2 : Blk w g 30 cur := hg
  have hkk : k * 10 + 10 ≤ l.length * 10 := by omega
  have hb3 := blk_setL hb2 (o := k * 10) (by omega) (.int .i64 o.cl) (.int .i64 o.sq) (.int .i64 o.kd) (.string o.acct) (.string o.peer) (.int .i64 o.sum) vo (.int .i64 o.per) (.int .i64 o.hold) (.string o.note)
  generalize ((((((((((w.setCell ⟨g, k * 10, none⟩ (.int .i64 o.cl)).setCell ⟨g, k * 10 + 1, none⟩ (.int .i64 o.sq)).setCell ⟨g, k * 10 + 2, none⟩ (.int .i64 o.kd)).setCell ⟨g, k * 10 + 3, none⟩ (.string o.acct)).setCell ⟨g, k * 10 + 4, none⟩ (.string o.peer)).setCell ⟨g, k * 10 + 5, none⟩ (.int .i64 o.sum)).setCell ⟨g, k * 10 + 6, none⟩ vo).setCell ⟨g, k * 10 + 7, none⟩ (.int .i64 o.per)).setCell ⟨g, k * 10 + 8, none⟩ (.int .i64 o.hold)).setCell ⟨g, k * 10 + 9, none⟩ (.string o.note)) = w' at *
  have hcs2 : (o.cs vo).length = 10 := rfl
  have hfit : k * 10 + (o.cs vo).length ≤ cells.length := by rw [hcs2, hlen]; exact hkk
  have hfit2 : k * 10 + (o.cs vo).length ≤ cur.toList.length := by rw [hcs2, Array.length_toList]; omega
  have hb3 : w'.heap[g]? = some (.cells (putL cur.toList (k * 10) (o.cs vo)).toArray 30 (0, 0)) := hb3
  refine ⟨putL cells (k * 10) (o.cs vo), ⟨by rw [putL_length hfit, hlen, List.length_set], .inr ⟨g, c, _, by rw [List.length_set], hb3, by rw [List.length_set]; exact hle, hcm, ?_, ?_⟩⟩, ?_⟩
  · rw [List.size_toArray, putL_length hfit2, Array.length_toList]
    exact hcs
  · rw [List.length_set]
    show (putL cur.toList (k * 10) (o.cs vo)).take (l.length * 10) = _
    have hcc : cur.toList.length = cur.size := Array.length_toList
    rw [putL_take (by rw [hcs2]; exact hkk) (by omega), ht]
  · have hN : ∀ j, New B w (some g) j → New B w' (some g) j := fun j hj => ⟨hj.1, Nat.lt_of_lt_of_le hj.2.1 hf.size, hj.2.2⟩
    have hS : ∀ j, New B w (some g) j → j < w.heap.size → ¬ At1 g j := fun j hj _ e => hj.2.2 (by rw [show j = g from e])
    exact each_set (R := OdRF w' (New B w' (some g))) (each_imp hE fun cs o ⟨v, k1, k2, k3, k4⟩ => ⟨v, k1, k2, k3, (k4.frS hf hS).more hN⟩) k hk hcs2 o ⟨vo, rfl, hok, hgs, (hL.frS hf hS).more hN⟩
/-- an order of a row of the call's own -/
theorem OwnN.at_ {B : Nat} {w : World} {g n c : Nat} {l : List Od} (h : OwnN B w (.slice (some ⟨g, 0, none⟩) n c) l) (k : Nat) (hk : k < l.length) :
    ∃ v, l[k].ok ∧ (∀ x ∈ l[k].legs, x.ok) ∧ LgS w (New B w (some g)) v l[k].legs ∧ ∀ i u, i < 10 → (l[k].cs v)[i]? = some u → w.cell? ⟨g, k * 10 + i, none⟩ = some u := by
  obtain ⟨cells, ⟨hlen, hown⟩, _, hEc⟩ := h
  rcases hown with ⟨_, h0⟩ | ⟨g', cap, cur, hv, hg, hle, hcm, hcs, ht⟩
  · omega
  injection hv with hv1 hv2 hv3
  injection hv1 with hv1
  injection hv1 with hv1 _
  subst hv1 hv2 hv3
  obtain ⟨v, hc, h1, h2, h3⟩ := hEc k l[k] (List.getElem?_eq_getElem hk)
  refine ⟨v, h1, h2, h3, fun i u hi hu => ?_⟩
  rw [← hc, List.getElem?_take, if_pos hi, List.getElem?_drop] at hu
  rw [cell_of_row w g _ cur 30 (0, 0) hg]
  rw [← ht, List.getElem?_take] at hu
  split at hu
  · simpa using hu
  · cases hu
end Go.Proofs.Ytnphncemghfkbaa

namespace Go.Proofs.Ytnphncemghfkbaa
open Go.RowKit Go.My Go.Maps Go.WideMaps
set_option linter.unusedSimpArgs false
set_option linter.unusedVariables false
attribute [local go_sem ↓] Go.wp_at_zero Go.wp_at_succ

def swapI (l : List Od) (i : Int) : Option (List Od) := if 0 ≤ i then swapO l i.toNat else none
def SwRet (w : World) (r : Option (List Od)) (e : Ending) (w' : World) : Prop := match r with
  | some m => RetN2 w m true e w'
  | none => e = .returned (.tuple #[.slice none 0 0, .bool false]) ∧ Fr No w w'
theorem swapO_none {l : List Od} {i : Nat} (h : l.length ≤ i + 1) : swapO l i = none := by
  unfold swapO
  rw [List.getElem?_eq_none h]
  cases l[i]? <;> rfl
theorem swapO_at {l : List Od} {i : Nat} (h : i + 1 < l.length) : swapO l i = if clashB l[i] l[i + 1] then none else some ((l.set i l[i + 1]).set (i + 1) l[i]) := by
  unfold swapO
  rw [List.getElem?_eq_getElem h, List.getElem?_eq_getElem (show i < l.length by omega)]
set_option maxRecDepth 100000 in
set_option maxHeartbeats 2000000 in
theorem swapC_any (w : World) (F : Nat → Prop) (A : Option Addr) (c : Nat) (l : List Od) (i : Int) (hl : Ls w F A c l) (hi : In64 i) :
    Calls Try.prog 20 #[.slice A l.length c, .int .i64 i] w (SwRet w (swapI l i)) := by
  have hn := hl.n
  unfold In64 at hi
  by_cases h0 : i < 0
  · have e : swapI l i = none := by unfold swapI; rw [if_neg (by omega)]
    rw [e]
    show Calls _ _ _ _ fun e w' => e = .returned (.tuple #[.slice none 0 0, .bool false]) ∧ Fr No w w'
    clear hl e
    generalize l.length = n at *
    have hd : decide (i < 0) = true := decide_eq_true h0
    go_enter Try.func20, Try.ntmps20
    go_upto_region 1 with (fail)
    go_quiet (fail)
    go_wp2
    go_ret2
    exact ⟨rfl, (Fr.refl _ _).drewN _⟩
  by_cases h1 : (l.length : Int) - 1 ≤ i
  · have e : swapI l i = none := by unfold swapI; rw [if_pos (by omega), swapO_none (by omega)]
    rw [e]
    show Calls _ _ _ _ fun e w' => e = .returned (.tuple #[.slice none 0 0, .bool false]) ∧ Fr No w w'
    clear hl e
    generalize l.length = n at *
    have hd : decide (i < 0) = false := decide_eq_false h0
    have hd2 : decide ((n : Int) - 1 ≤ i) = true := decide_eq_true h1
    go_enter Try.func20, Try.ntmps20
    go_upto_region 1 with (fail)
    go_quiet (fail)
    go_wp2
    go_ret2
    exact ⟨rfl, (Fr.refl _ _).drewN _⟩
  obtain ⟨k, rfl⟩ : ∃ k : Nat, i = (k : Int) := ⟨i.toNat, by omega⟩
  have hk : k + 1 < l.length := by omega
  have e : swapI l (k : Int) = swapO l k := by unfold swapI; rw [if_pos (by omega), Int.toNat_natCast]
  rw [e, swapO_at hk]
  have HCP : Hid (∀ W, Fr No w W → Calls Try.prog 24 #[.slice A l.length c, .func (.func 25) #[] #[]] W (RetN W l)) := fun W hW => copyAll_any W F A c l (hl.no hW).ods hl.n hl.s
  obtain ⟨ad, va, rfl, _, oka, ga, La, q0, q1, q2, q3, q4, q5, q6, q7, q8, q9⟩ := hl.ods.at_ k (by omega)
  obtain ⟨bd, vb, he, _, okb, gb, Lb, r0, r1, r2, r3, r4, r5, r6, r7, r8, r9⟩ := hl.ods.at_ (k + 1) hk
  injection he with he
  subst he
  obtain ⟨aA, ac, rfl, -, -⟩ := La.form
  obtain ⟨bA, bc, rfl, -, -⟩ := Lb.form
  have HC : Hid (∀ W, Fr No w W → Calls Try.prog 6 #[l[k].val (.slice aA l[k].legs.length ac), l[k + 1].val (.slice bA l[k + 1].legs.length bc)] W fun e w' => e = .returned (.bool (clashB l[k] l[k + 1])) ∧ Fr No W w') := fun W hW => clash_any _ _ l[k] l[k + 1] _ _ W (La.no hW) (Lb.no hW) (hl.s _ (List.getElem_mem (by omega))) (hl.s _ (List.getElem_mem hk))
  unfold Od.val Od.cs at HC
  simp only [List.toArray] at HC
  have hne : Nonempty (WIn (Fr No w)) := ⟨⟨_, Fr.refl _ _⟩⟩
  have a0 := fun x : WIn (Fr No w) => x.h.cell_some q0 (fun h => h)
  have b0 := fun x : WIn (Fr No w) => x.h.cell_some r0 (fun h => h)
  have a1 := fun x : WIn (Fr No w) => x.h.cell_some q1 (fun h => h)
  have b1 := fun x : WIn (Fr No w) => x.h.cell_some r1 (fun h => h)
  have a2 := fun x : WIn (Fr No w) => x.h.cell_some q2 (fun h => h)
  have b2 := fun x : WIn (Fr No w) => x.h.cell_some r2 (fun h => h)
  have a3 := fun x : WIn (Fr No w) => x.h.cell_some q3 (fun h => h)
  have b3 := fun x : WIn (Fr No w) => x.h.cell_some r3 (fun h => h)
  have a4 := fun x : WIn (Fr No w) => x.h.cell_some q4 (fun h => h)
  have b4 := fun x : WIn (Fr No w) => x.h.cell_some r4 (fun h => h)
  have a5 := fun x : WIn (Fr No w) => x.h.cell_some q5 (fun h => h)
  have b5 := fun x : WIn (Fr No w) => x.h.cell_some r5 (fun h => h)
  have a6 := fun x : WIn (Fr No w) => x.h.cell_some q6 (fun h => h)
  have b6 := fun x : WIn (Fr No w) => x.h.cell_some r6 (fun h => h)
  have a7 := fun x : WIn (Fr No w) => x.h.cell_some q7 (fun h => h)
  have b7 := fun x : WIn (Fr No w) => x.h.cell_some r7 (fun h => h)
  have a8 := fun x : WIn (Fr No w) => x.h.cell_some q8 (fun h => h)
  have b8 := fun x : WIn (Fr No w) => x.h.cell_some r8 (fun h => h)
  have a9 := fun x : WIn (Fr No w) => x.h.cell_some q9 (fun h => h)
  have b9 := fun x : WIn (Fr No w) => x.h.cell_some r9 (fun h => h)
  clear q0 r0 q1 r1 q2 r2 q3 r3 q4 r4 q5 r5 q6 r6 q7 r7 q8 r8 q9 r9 La Lb oka okb ga gb e
  have hd : decide ((k : Int) < 0) = false := decide_eq_false (by omega)
  have hd2 : decide ((l.length : Int) - 1 ≤ (k : Int)) = false := decide_eq_false (by omega)
  rcases (Bool.eq_false_or_eq_true (clashB l[k] l[k + 1])) with hcl | hcl
  · rw [if_pos hcl]
    show Calls _ _ _ _ fun e w' => e = .returned (.tuple #[.slice none 0 0, .bool false]) ∧ Fr No w w'
    go_enter Try.func20, Try.ntmps20
    go_upto_region 1 with (fail)
    refine wp_region_in (D := Fr No w) (by kernel_rfl) (by kernel_rfl) (Fr.refl _ _).drew ?_
    repeat (go_big_quiet_step ((first | (go_at_call 6; refine Calls.in_of (v := .bool true) _ fun W hW => ?_; have h := HC.out W hW; rw [hcl] at h; (with_reducible refine h.mono ?_); exact fun _ _ h => ⟨h.1, Fr.trans hW h.2⟩))))
    refine wpQuiet_nil ?_
    rintro _ ⟨⟨wq, hq⟩, rfl⟩
    go_wp2
    go_ret2
    exact ⟨rfl, hq⟩
  · rw [if_neg (by rw [hcl]; decide)]
    show Calls _ _ _ _ (RetN2 w ((l.set k l[k + 1]).set (k + 1) l[k]) true)
    generalize hml : (l.set k l[k + 1]).set (k + 1) l[k] = ml
    go_enter Try.func20, Try.ntmps20
    go_upto_region 1 with (fail)
    refine wp_region_in (D := Fr No w) (by kernel_rfl) (by kernel_rfl) (Fr.refl _ _).drew ?_
    repeat (go_big_quiet_step ((first | (go_at_call 6; refine Calls.in_of (v := .bool false) _ fun W hW => ?_; have h := HC.out W hW; rw [hcl] at h; (with_reducible refine h.mono ?_); exact fun _ _ h => ⟨h.1, Fr.trans hW h.2⟩))))
    refine wpQuiet_nil ?_
    rintro _ ⟨⟨wq, hq⟩, rfl⟩
    clear a0 a1 a2 a3 a4 a5 a6 a7 a8 a9 b0 b1 b2 b3 b4 b5 b6 b7 b8 b9 HC hne
    go_wp2_with fail
    (with_reducible refine (HCP.out _ hq).mono ?_)
    rintro e w2 ⟨A2, c2, rfl, ho2, hf2, hn2⟩
    have hg2 : ∃ g, A2 = some ⟨g, 0, none⟩ := by
      obtain ⟨cells, ⟨_, hown2⟩, _⟩ := ho2
      rcases hown2 with ⟨_, h0⟩ | ⟨g, cap, cur, hv, _⟩
      · omega
      injection hv with hv1
      exact ⟨g, hv1⟩
    obtain ⟨g, rfl⟩ := hg2
    have hfz : ∀ i, w2.frozen? ⟨g, i, none⟩ = false := by
      obtain ⟨cells, ⟨_, hown2⟩, _⟩ := ho2
      rcases hown2 with ⟨_, h0⟩ | ⟨g', cap, cur, hv, hg, _⟩
      · omega
      injection hv with hv1
      injection hv1 with hv1
      injection hv1 with hv1 _
      subst hv1
      exact fun i => Blk.frozen (t := 30) hg i
    obtain ⟨va, oka, ga, La, hga⟩ := ho2.at_ k (by omega)
    obtain ⟨vb, okb, gb, Lb, hgb⟩ := ho2.at_ (k + 1) hk
    obtain ⟨aA2, ac2, rfl, -, -⟩ := La.form
    obtain ⟨bA2, bc2, rfl, -, -⟩ := Lb.form
    have HFN : Hid (OwnN w.heap.size (((((((((((((((((((((w2.setCell ⟨g, k * 10, none⟩ (.int .i64 l[k + 1].cl)).setCell ⟨g, k * 10 + 1, none⟩ (.int .i64 l[k + 1].sq)).setCell ⟨g, k * 10 + 2, none⟩ (.int .i64 l[k + 1].kd)).setCell ⟨g, k * 10 + 3, none⟩ (.string l[k + 1].acct)).setCell ⟨g, k * 10 + 4, none⟩ (.string l[k + 1].peer)).setCell ⟨g, k * 10 + 5, none⟩ (.int .i64 l[k + 1].sum)).setCell ⟨g, k * 10 + 6, none⟩ (.slice bA2 l[k + 1].legs.length bc2)).setCell ⟨g, k * 10 + 7, none⟩ (.int .i64 l[k + 1].per)).setCell ⟨g, k * 10 + 8, none⟩ (.int .i64 l[k + 1].hold)).setCell ⟨g, k * 10 + 9, none⟩ (.string l[k + 1].note)).setCell ⟨g, (k + 1) * 10, none⟩ (.int .i64 l[k].cl)).setCell ⟨g, (k + 1) * 10 + 1, none⟩ (.int .i64 l[k].sq)).setCell ⟨g, (k + 1) * 10 + 2, none⟩ (.int .i64 l[k].kd)).setCell ⟨g, (k + 1) * 10 + 3, none⟩ (.string l[k].acct)).setCell ⟨g, (k + 1) * 10 + 4, none⟩ (.string l[k].peer)).setCell ⟨g, (k + 1) * 10 + 5, none⟩ (.int .i64 l[k].sum)).setCell ⟨g, (k + 1) * 10 + 6, none⟩ (.slice aA2 l[k].legs.length ac2)).setCell ⟨g, (k + 1) * 10 + 7, none⟩ (.int .i64 l[k].per)).setCell ⟨g, (k + 1) * 10 + 8, none⟩ (.int .i64 l[k].hold)).setCell ⟨g, (k + 1) * 10 + 9, none⟩ (.string l[k].note)).drew) (.slice (some ⟨g, 0, none⟩) l.length c2) ml ∧ Fr No w (((((((((((((((((((((w2.setCell ⟨g, k * 10, none⟩ (.int .i64 l[k + 1].cl)).setCell ⟨g, k * 10 + 1, none⟩ (.int .i64 l[k + 1].sq)).setCell ⟨g, k * 10 + 2, none⟩ (.int .i64 l[k + 1].kd)).setCell ⟨g, k * 10 + 3, none⟩ (.string l[k + 1].acct)).setCell ⟨g, k * 10 + 4, none⟩ (.string l[k + 1].peer)).setCell ⟨g, k * 10 + 5, none⟩ (.int .i64 l[k + 1].sum)).setCell ⟨g, k * 10 + 6, none⟩ (.slice bA2 l[k + 1].legs.length bc2)).setCell ⟨g, k * 10 + 7, none⟩ (.int .i64 l[k + 1].per)).setCell ⟨g, k * 10 + 8, none⟩ (.int .i64 l[k + 1].hold)).setCell ⟨g, k * 10 + 9, none⟩ (.string l[k + 1].note)).setCell ⟨g, (k + 1) * 10, none⟩ (.int .i64 l[k].cl)).setCell ⟨g, (k + 1) * 10 + 1, none⟩ (.int .i64 l[k].sq)).setCell ⟨g, (k + 1) * 10 + 2, none⟩ (.int .i64 l[k].kd)).setCell ⟨g, (k + 1) * 10 + 3, none⟩ (.string l[k].acct)).setCell ⟨g, (k + 1) * 10 + 4, none⟩ (.string l[k].peer)).setCell ⟨g, (k + 1) * 10 + 5, none⟩ (.int .i64 l[k].sum)).setCell ⟨g, (k + 1) * 10 + 6, none⟩ (.slice aA2 l[k].legs.length ac2)).setCell ⟨g, (k + 1) * 10 + 7, none⟩ (.int .i64 l[k].per)).setCell ⟨g, (k + 1) * 10 + 8, none⟩ (.int .i64 l[k].hold)).setCell ⟨g, (k + 1) * 10 + 9, none⟩ (.string l[k].note)).drew)) := by
      rw [← hml]
      have hsw := (hq : Fr No w _).size
      have hgw : w.heap.size ≤ g := Nat.le_trans hsw (hn2 g rfl)
      obtain ⟨p1, f1⟩ := ho2.put1 (k := k) (o := l[k + 1]) (vo := .slice bA2 l[k + 1].legs.length bc2) (by omega) okb gb Lb
      have hS : ∀ {B0 : Nat} (j : Nat), New B0 w2 (some g) j → j < w2.heap.size → ¬ At1 g j := fun j hj _ e => hj.2.2 (by rw [show j = g from e])
      have La2 := (La.frS f1 hS).more (G := New _ _ (some g)) fun j hj => ⟨hj.1, Nat.lt_of_lt_of_le hj.2.1 f1.size, hj.2.2⟩
      obtain ⟨p2, f2⟩ := p1.put1 (k := k + 1) (o := l[k]) (vo := .slice aA2 l[k].legs.length ac2) (by rw [List.length_set]; exact hk) oka ga La2
      have f3 : Fr (At1 g) w2 (((((((((((((((((((((w2.setCell ⟨g, k * 10, none⟩ (.int .i64 l[k + 1].cl)).setCell ⟨g, k * 10 + 1, none⟩ (.int .i64 l[k + 1].sq)).setCell ⟨g, k * 10 + 2, none⟩ (.int .i64 l[k + 1].kd)).setCell ⟨g, k * 10 + 3, none⟩ (.string l[k + 1].acct)).setCell ⟨g, k * 10 + 4, none⟩ (.string l[k + 1].peer)).setCell ⟨g, k * 10 + 5, none⟩ (.int .i64 l[k + 1].sum)).setCell ⟨g, k * 10 + 6, none⟩ (.slice bA2 l[k + 1].legs.length bc2)).setCell ⟨g, k * 10 + 7, none⟩ (.int .i64 l[k + 1].per)).setCell ⟨g, k * 10 + 8, none⟩ (.int .i64 l[k + 1].hold)).setCell ⟨g, k * 10 + 9, none⟩ (.string l[k + 1].note)).setCell ⟨g, (k + 1) * 10, none⟩ (.int .i64 l[k].cl)).setCell ⟨g, (k + 1) * 10 + 1, none⟩ (.int .i64 l[k].sq)).setCell ⟨g, (k + 1) * 10 + 2, none⟩ (.int .i64 l[k].kd)).setCell ⟨g, (k + 1) * 10 + 3, none⟩ (.string l[k].acct)).setCell ⟨g, (k + 1) * 10 + 4, none⟩ (.string l[k].peer)).setCell ⟨g, (k + 1) * 10 + 5, none⟩ (.int .i64 l[k].sum)).setCell ⟨g, (k + 1) * 10 + 6, none⟩ (.slice aA2 l[k].legs.length ac2)).setCell ⟨g, (k + 1) * 10 + 7, none⟩ (.int .i64 l[k].per)).setCell ⟨g, (k + 1) * 10 + 8, none⟩ (.int .i64 l[k].hold)).setCell ⟨g, (k + 1) * 10 + 9, none⟩ (.string l[k].note)).drew) := (f1.trans f2).drew
      generalize ((((((((((((((((((((w2.setCell ⟨g, k * 10, none⟩ (.int .i64 l[k + 1].cl)).setCell ⟨g, k * 10 + 1, none⟩ (.int .i64 l[k + 1].sq)).setCell ⟨g, k * 10 + 2, none⟩ (.int .i64 l[k + 1].kd)).setCell ⟨g, k * 10 + 3, none⟩ (.string l[k + 1].acct)).setCell ⟨g, k * 10 + 4, none⟩ (.string l[k + 1].peer)).setCell ⟨g, k * 10 + 5, none⟩ (.int .i64 l[k + 1].sum)).setCell ⟨g, k * 10 + 6, none⟩ (.slice bA2 l[k + 1].legs.length bc2)).setCell ⟨g, k * 10 + 7, none⟩ (.int .i64 l[k + 1].per)).setCell ⟨g, k * 10 + 8, none⟩ (.int .i64 l[k + 1].hold)).setCell ⟨g, k * 10 + 9, none⟩ (.string l[k + 1].note)).setCell ⟨g, (k + 1) * 10, none⟩ (.int .i64 l[k].cl)).setCell ⟨g, (k + 1) * 10 + 1, none⟩ (.int .i64 l[k].sq)).setCell ⟨g, (k + 1) * 10 + 2, none⟩ (.int .i64 l[k].kd)).setCell ⟨g, (k + 1) * 10 + 3, none⟩ (.string l[k].acct)).setCell ⟨g, (k + 1) * 10 + 4, none⟩ (.string l[k].peer)).setCell ⟨g, (k + 1) * 10 + 5, none⟩ (.int .i64 l[k].sum)).setCell ⟨g, (k + 1) * 10 + 6, none⟩ (.slice aA2 l[k].legs.length ac2)).setCell ⟨g, (k + 1) * 10 + 7, none⟩ (.int .i64 l[k].per)).setCell ⟨g, (k + 1) * 10 + 8, none⟩ (.int .i64 l[k].hold)).setCell ⟨g, (k + 1) * 10 + 9, none⟩ (.string l[k].note)) = wz at *
      obtain ⟨cells, hown, hE⟩ := p2
      refine ⟨⟨cells, hown, each_imp hE fun cs o ⟨v, k1, k2, k3, k4⟩ => ⟨v, k1, k2, k3, LgS.more (F := New _ wz (some g)) k4 fun j hj => ⟨Nat.le_trans hsw hj.1, hj.2.1, hj.2.2⟩⟩⟩, (hq.trans hf2).trans' f3 fun i hi hlt => ?_⟩
      have hi : i = g := hi
      omega
    have HWQ : Hid (Fr No w w2) := hq.trans hf2
    have hk2 : (k : Int) + 1 ≤ 1000000 := by omega
    have hwr : IntKind.i64.wrap ((k : Int) + 1) = (k : Int) + 1 := IntWalk.i64_in _ (by omega)
    have hbd : (k : Int) + 1 < (l.length : Int) := by omega
    have hkl : k < l.length := by omega
    have hbz : (0 : Int) ≤ (k : Int) + 1 := by omega
    have htn : ((k : Int) + 1).toNat = k + 1 := by omega
    have q0 := hga 0 _ (by omega) rfl
    have r0 := hgb 0 _ (by omega) rfl
    have q1 := hga 1 _ (by omega) rfl
    have r1 := hgb 1 _ (by omega) rfl
    have q2 := hga 2 _ (by omega) rfl
    have r2 := hgb 2 _ (by omega) rfl
    have q3 := hga 3 _ (by omega) rfl
    have r3 := hgb 3 _ (by omega) rfl
    have q4 := hga 4 _ (by omega) rfl
    have r4 := hgb 4 _ (by omega) rfl
    have q5 := hga 5 _ (by omega) rfl
    have r5 := hgb 5 _ (by omega) rfl
    have q6 := hga 6 _ (by omega) rfl
    have r6 := hgb 6 _ (by omega) rfl
    have q7 := hga 7 _ (by omega) rfl
    have r7 := hgb 7 _ (by omega) rfl
    have q8 := hga 8 _ (by omega) rfl
    have r8 := hgb 8 _ (by omega) rfl
    have q9 := hga 9 _ (by omega) rfl
    have r9 := hgb 9 _ (by omega) rfl
    rw [Nat.add_zero] at q0 r0
    have HML : Hid (ml.length = l.length) := by show _ = _; rw [← hml, List.length_set, List.length_set]
    have HN2 : Hid (∀ j, (Value.slice (some ⟨g, 0, none⟩) l.length c2).ownBlock = some j → w.heap.size ≤ j) := fun j hj => Nat.le_trans (hq : Fr No w _).size (hn2 j hj)
    clear hd hd2 hl HCP La Lb hga hgb oka okb ga gb ho2 hq hf2 hn2 hcl hml
    go_upto_region 4 with (fail)
    go_region_law (fail)
    all_goals
      clear q0 q1 q2 q3 q4 q5 q6 q7 q8 q9 r0 r1 r2 r3 r4 r5 r6 r7 r8 r9
      go_wp2
      go_ret2
      exact ⟨_, _, by rw [HML.out]; rfl, by rw [HML.out]; exact HFN.out.1, HFN.out.2, by rw [HML.out]; exact HN2.out⟩
end Go.Proofs.Ytnphncemghfkbaa

namespace Go.Proofs.Ytnphncemghfkbaa
open Go.RowKit Go.My Go.Maps Go.WideMaps
set_option linter.unusedSimpArgs false
set_option linter.unusedVariables false
attribute [local go_sem ↓] Go.wp_at_zero Go.wp_at_succ

def ask10 (seq : Int) (acct : ByteArray) : Od := ⟨0, seq, 7, acct, ⟨#[]⟩, 0, [], 0, 0, ⟨#[]⟩⟩
def liveX : List Od := [ask10 1 ⟨#[97]⟩, ask10 2 ⟨#[98]⟩, ask10 3 ⟨#[98]⟩]
def liveY : List Od := [ask10 2 ⟨#[98]⟩, ask10 1 ⟨#[97]⟩, ask10 3 ⟨#[98]⟩]
theorem touch_ask (s : Int) (b : UInt8) : touchL (ask10 s ⟨#[b]⟩) = [[b]] := by
  unfold touchL
  refine (upOf_eq (t := [[b]]) (by unfold Up; simp) fun x => ?_).symm
  rfl
theorem clash_ask (s t : Int) (b c : UInt8) : clashB (ask10 s ⟨#[b]⟩) (ask10 t ⟨#[c]⟩) = (decide (s = t) || decide (b = c)) := by
  unfold clashB
  rw [touch_ask, touch_ask]
  unfold meetL Od.id ask10
  simp
theorem live_rt : Rt Od.id liveX := by
  unfold Rt liveX Od.id ask10
  decide
theorem live_1 : swapI liveX 0 = some liveY := by
  unfold swapI
  rw [if_pos (by decide)]
  show swapO liveX 0 = _
  rw [swapO_at (by decide)]
  have h : clashB liveX[0] liveX[0 + 1] = false := by
    show clashB (ask10 1 ⟨#[97]⟩) (ask10 2 ⟨#[98]⟩) = false
    rw [clash_ask]
    rfl
  rw [h]
  rfl
theorem live_2 : swapI liveX 1 = none := by
  unfold swapI
  rw [if_pos (by decide)]
  show swapO liveX 1 = _
  rw [swapO_at (by decide)]
  have h : clashB liveX[1] liveX[1 + 1] = true := by
    show clashB (ask10 2 ⟨#[98]⟩) (ask10 3 ⟨#[98]⟩) = true
    rw [clash_ask]
    rfl
  rw [if_pos h]
theorem live_ak : Ak Od.id clashB liveX liveY := by
  have h := live_1
  unfold swapI at h
  rw [if_pos (by decide)] at h
  exact swap_ak live_rt h
theorem live_3 : alikeB liveX liveY = true := (alikeB_iff _ _).2 live_ak
theorem live_4 : beginsB (liveX.take 1) liveY = true := (beginsB_iff _ _).2 ((Bg.take live_rt 1).trans live_ak.2)
theorem live_5 : clashB (ask10 2 ⟨#[98]⟩) (ask10 3 ⟨#[98]⟩) = true := by rw [clash_ask]; rfl
theorem live_6 : beginsB (liveX.drop 2) liveY = false := by
  cases h : beginsB (liveX.drop 2) liveY with
  | false => rfl
  | true =>
    have h := (beginsB_iff _ _).1 h
    have hb : bef (ask10 2 ⟨#[98]⟩) (ask10 3 ⟨#[98]⟩) liveY := .inl ⟨rfl, List.mem_cons_of_mem _ List.mem_cons_self⟩
    have := h.2.2.2 _ _ hb live_5 List.mem_cons_self
    rcases this with ⟨_, h1⟩ | h1
    · cases h1
    · cases h1
theorem ask10_any (seq : Int) (acct : ByteArray) (w : World) : Calls Try.prog 19 #[.int .i64 seq, .string acct] w fun e w' => e = .returned (.agg #[.int .i64 0, .int .i64 seq, .int .i64 7, .string acct, .string ⟨#[]⟩, .int .i64 0, .slice none 0 0, .int .i64 0, .int .i64 0, .string ⟨#[]⟩]) ∧ Fr No w w' := by
  have hb := Blk.new w 30 #[.int .i64 0, .int .i64 seq, .int .i64 7, .string acct, .string ⟨#[]⟩, .int .i64 0, .slice none 0 0, .int .i64 0, .int .i64 0, .string ⟨#[]⟩]
  have d0 := hb.cell 0
  have d1 := hb.cell 1
  have d2 := hb.cell 2
  have d3 := hb.cell 3
  have d4 := hb.cell 4
  have d5 := hb.cell 5
  have d6 := hb.cell 6
  have d7 := hb.cell 7
  have d8 := hb.cell 8
  have d9 := hb.cell 9
  simp only [List.getElem?_toArray, List.getElem?_cons_zero, List.getElem?_cons_succ] at d0 d1 d2 d3 d4 d5 d6 d7 d8 d9
  clear hb
  go_enter Try.func19, Try.ntmps19
  go_wp2
  refine bodyPost_ret (v := .agg #[.int .i64 0, .int .i64 seq, .int .i64 7, .string acct, .string ⟨#[]⟩, .int .i64 0, .slice none 0 0, .int .i64 0, .int .i64 0, .string ⟨#[]⟩]) (by simp [results, Try.results19, go_sem, d0, d1, d2, d3, d4, d5, d6, d7, d8, d9]) rfl ?_
  exact ⟨rfl, (Fr.refl _ _).alloc _⟩
def askC (seq : Int) (acct : ByteArray) : List Value := (ask10 seq acct).cs (.slice none 0 0)
def liveC10 : List Value := askC 1 ⟨#[97]⟩ ++ askC 2 ⟨#[98]⟩ ++ askC 3 ⟨#[98]⟩
theorem liveE10 (w0 : World) : Each (OdR w0) 10 liveC10 liveX := by
  have ho : ∀ s b, In64 s → OdR w0 (askC s ⟨#[b]⟩) (ask10 s ⟨#[b]⟩) := fun s b h1 => ⟨.slice none 0 0, rfl, by
    unfold ask10 Od.ok In64 at *
    refine ⟨by simp, h1, by simp, ?_, ?_, by simp, by simp, by simp, ?_⟩
    · show (⟨#[b]⟩ : ByteArray).size ≤ maxLen; unfold maxLen; show 1 ≤ _; omega
    · show (⟨#[]⟩ : ByteArray).size ≤ maxLen; decide
    · show (⟨#[]⟩ : ByteArray).size ≤ maxLen; decide, fun g hg => absurd hg (by simp [ask10]), LgS_nil _ _⟩
  have h1 := Each.snocO (Each.nilO w0) (cs := askC 1 ⟨#[97]⟩) rfl (ho 1 97 (by unfold In64; omega))
  have h2 := Each.snocO h1 (cs := askC 2 ⟨#[98]⟩) rfl (ho 2 98 (by unfold In64; omega))
  exact Each.snocO h2 (cs := askC 3 ⟨#[98]⟩) rfl (ho 3 98 (by unfold In64; omega))
theorem ods_blk {w0 w : World} {g : Nat} {t : TypeId} {cs : List Value} {l : List Od} (h : Blk w g t cs.toArray) (hE : Each (OdR w0) 10 cs l) : OdsS w0 w (fun k => k = g) (some ⟨g, 0, none⟩) l := by
  refine ⟨cs, ⟨hE.1, fun _ => ⟨_, rfl, rfl, fun j u hu => ?_⟩⟩, hE⟩
  rw [add_zero, h.cell j]
  simpa using hu
/-- the beginning of a list -/
theorem OdsS.takeO {w0 w : World} {F : Nat → Prop} {A : Option Addr} {l : List Od} (h : OdsS w0 w F A l) (k : Nat) (hk : k ≤ l.length) : OdsS w0 w F A (l.take k) := by
  obtain ⟨cells, hr, hE⟩ := h
  have hlk : (l.take k).length = k := by rw [List.length_take]; omega
  refine ⟨cells.take (k * 10), by rw [hlk]; exact hr.take hk, by rw [List.length_take, hE.1, hlk]; omega, fun i x hx => ?_⟩
  have hi : i < k := by have := (List.getElem?_eq_some_iff.1 hx).1; omega
  have hx' : l[i]? = some x := by rw [List.getElem?_take, if_pos hi] at hx; exact hx
  have h1 := hE.2 i x hx'
  rw [List.drop_take, List.take_take, Nat.min_eq_left (by omega)]
  exact h1
/-- the end of a list -/
theorem OdsS.dropO {w0 w : World} {F : Nat → Prop} {A : Option Addr} {c : Nat} {l : List Od} (h : OdsS w0 w F A l) (k : Nat) (hk : k ≤ l.length) (hc : l.length ≤ c) : OdsS w0 w F (if c = k then A else A.map (·.add (k * 10))) (l.drop k) := by
  obtain ⟨cells, hr, hE⟩ := h
  refine ⟨cells.drop (k * 10), by rw [List.length_drop]; exact hr.cut hk hc, by rw [List.length_drop, hE.1, List.length_drop, Nat.sub_mul], fun i x hx => ?_⟩
  rw [List.getElem?_drop] at hx
  have h1 := hE.2 _ x hx
  rw [List.drop_drop, show k * 10 + i * 10 = (k + i) * 10 by omega]
  exact h1
end Go.Proofs.Ytnphncemghfkbaa

namespace Go.Proofs.Ytnphncemghfkbaa
open Go.RowKit Go.My Go.Maps Go.WideMaps
set_option linter.unusedSimpArgs false
set_option linter.unusedVariables false
attribute [local go_sem ↓] Go.wp_at_zero Go.wp_at_succ

theorem live_ls {W : World} {g : Nat} {t : TypeId} (hb : Blk W g t liveC10.toArray) : Ls W (fun k => k = g) (some ⟨g, 0, none⟩) 3 liveX := ⟨ods_blk hb (liveE10 W), by decide, by decide, by decide⟩
theorem live_y : ∀ o ∈ liveY, o.legs.length ≤ 100000 := by decide
set_option maxRecDepth 100000 in
set_option maxHeartbeats 1000000 in
theorem lives10 (w : World) : Calls Try.prog 4 #[] w (fun e w' => e = .returned (.bool true) ∧ Fr No w w') := by
  have HA := Lib.hid (fun s a W => ask10_any s a W)
  have HS0 : Hid (∀ W g t, Blk W g t liveC10.toArray → Calls Try.prog 20 #[.slice (some ⟨g, 0, none⟩) 3 3, .int .i64 0] W fun e w' => ∃ A c, e = .returned (.tuple #[.slice A 3 c, .bool true]) ∧ OwnN W.heap.size w' (.slice A 3 c) liveY ∧ Fr No W w') := fun W g t hb => by
    have h := swapC_any W _ _ 3 liveX 0 (live_ls hb) (by unfold In64; omega)
    rw [live_1] at h
    refine Calls.mono h ?_
    rintro e w' ⟨A, c, h1, h2, h3, _⟩
    exact ⟨A, c, h1, h2, h3⟩
  have HS1 : Hid (∀ W g t, Blk W g t liveC10.toArray → Calls Try.prog 20 #[.slice (some ⟨g, 0, none⟩) 3 3, .int .i64 1] W fun e w' => e = .returned (.tuple #[.slice none 0 0, .bool false]) ∧ Fr No W w') := fun W g t hb => by
    have h := swapC_any W _ _ 3 liveX 1 (live_ls hb) (by unfold In64; omega)
    rw [live_2] at h
    exact h
  have HAL : Hid (∀ W g t A c B, Blk W g t liveC10.toArray → OwnN B W (.slice A 3 c) liveY → Calls Try.prog 14 #[.slice (some ⟨g, 0, none⟩) 3 3, .slice A 3 c] W fun e w' => e = .returned (.bool true) ∧ Fr No W w') := fun W g t A c B hb ho => by
    obtain ⟨A2, c2, e, h1, h2⟩ := ho.form
    injection e with e1 e2 e3
    subst e1 e3
    have h := alikeC_any W _ _ _ A 3 c liveX liveY (live_ls hb) ⟨ho.ods, by decide, h1, live_y⟩
    rw [live_3] at h
    exact h
  have HBG : Hid (∀ W g t A c B, Blk W g t liveC10.toArray → OwnN B W (.slice A 3 c) liveY → Calls Try.prog 12 #[.slice (some ⟨g, 0, none⟩) 1 3, .slice A 3 c] W fun e w' => e = .returned (.bool true) ∧ Fr No W w') := fun W g t A c B hb ho => by
    obtain ⟨A2, c2, e, h1, h2⟩ := ho.form
    injection e with e1 e2 e3
    subst e1 e3
    have hl := live_ls hb
    have h := beginsC_any W _ _ _ A 3 c (liveX.take 1) liveY ⟨hl.ods.takeO 1 (by decide), by decide, by decide, by decide⟩ ⟨ho.ods, by decide, h1, live_y⟩
    rw [live_4] at h
    exact h
  have HBD : Hid (∀ W g t A c B, Blk W g t liveC10.toArray → OwnN B W (.slice A 3 c) liveY → Calls Try.prog 12 #[.slice (some ⟨g, 20, none⟩) 1 1, .slice A 3 c] W fun e w' => e = .returned (.bool false) ∧ Fr No W w') := fun W g t A c B hb ho => by
    obtain ⟨A2, c2, e, h1, h2⟩ := ho.form
    injection e with e1 e2 e3
    subst e1 e3
    have hl := live_ls hb
    have h := beginsC_any W _ _ (some ⟨g, 20, none⟩) A 1 c (liveX.drop 2) liveY ⟨hl.ods.dropO (c := 3) 2 (by decide) (by decide), by decide, by decide, by decide⟩ ⟨ho.ods, by decide, h1, live_y⟩
    rw [live_6] at h
    exact h
  have HCL : Hid (∀ W, Calls Try.prog 6 #[.agg #[.int .i64 0, .int .i64 2, .int .i64 7, .string ⟨#[98]⟩, .string ⟨#[]⟩, .int .i64 0, .slice none 0 0, .int .i64 0, .int .i64 0, .string ⟨#[]⟩], .agg #[.int .i64 0, .int .i64 3, .int .i64 7, .string ⟨#[98]⟩, .string ⟨#[]⟩, .int .i64 0, .slice none 0 0, .int .i64 0, .int .i64 0, .string ⟨#[]⟩]] W fun e w' => e = .returned (.bool true) ∧ Fr No W w') := fun W => by
    have h := clash_any No No (ask10 2 ⟨#[98]⟩) (ask10 3 ⟨#[98]⟩) (.slice none 0 0) (.slice none 0 0) W (LgS_nil _ _) (LgS_nil _ _) (by decide) (by decide)
    rw [live_5] at h
    exact h
  go_enter Try.func4, Try.ntmps4
  go_wp2_with fail
  (with_reducible refine (HA.out _ _ _).mono ?_)
  rintro e w1 ⟨rfl, hf1⟩
  go_wp2_with fail
  (with_reducible refine (HA.out _ _ _).mono ?_)
  rintro e w2 ⟨rfl, hf2⟩
  go_wp2_with fail
  (with_reducible refine (HA.out _ _ _).mono ?_)
  rintro e w3 ⟨rfl, hf3⟩
  have HF3 := Lib.hid ((hf1.trans hf2).trans hf3)
  clear hf1 hf2 hf3
  have HB3 : Hid (Blk (w3.alloc (.cells liveC10.toArray 30)) w3.heap.size 30 liveC10.toArray) := Blk.new _ _ _
  have HF3a : Hid (Fr No w (w3.alloc (.cells liveC10.toArray 30))) := HF3.out.alloc _
  go_wp2_with fail
  refine (HS0.out _ _ _ HB3.out).mono ?_
  rintro e w4 ⟨A, c, rfl, ho4, hf4⟩
  have HB4 := Lib.hid (HB3.out.fr hf4 (fun h => h))
  have HF4 := Lib.hid (HF3a.out.trans hf4)
  have HO4 := Lib.hid ho4
  clear ho4 hf4 HB3 HF3a HF3
  generalize w3.heap.size = g at *
  go_wp2_with fail
  refine (HS1.out _ _ _ HB4.out).mono ?_
  rintro e w5 ⟨rfl, hf5⟩
  have HB5 := Lib.hid (HB4.out.fr hf5 (fun h => h))
  have HF5 := Lib.hid (HF4.out.trans hf5)
  have HO5 := Lib.hid (HO4.out.no hf5)
  clear hf5 HB4 HF4 HO4 HS0 HS1 HA
  obtain ⟨g2, rfl⟩ : ∃ g2, A = some ⟨g2, 0, none⟩ := by
    obtain ⟨cells, ⟨_, hown⟩, _⟩ := HO5.out
    rcases hown with ⟨_, h0⟩ | ⟨g2, cap, cur, hv, _⟩
    · exact absurd h0 (by decide)
    injection hv with hv1
    exact ⟨g2, hv1⟩
  obtain ⟨v2, -, -, -, hc2⟩ := HO5.out.at_ 0 (by decide)
  have s1 := fun x : WIn (Fr No w5) => (show x.W.cell? ⟨g2, 1, none⟩ = some (.int .i64 2) from x.h.cell_some (hc2 1 _ (by decide) rfl) (fun h => h))
  clear hc2
  have c10 := fun x : WIn (Fr No w5) => (show x.W.cell? ⟨g, 10, none⟩ = some (.int .i64 0) from (HB5.out.fr x.h (fun h => h)).cell 10)
  have c11 := fun x : WIn (Fr No w5) => (show x.W.cell? ⟨g, 11, none⟩ = some (.int .i64 2) from (HB5.out.fr x.h (fun h => h)).cell 11)
  have c12 := fun x : WIn (Fr No w5) => (show x.W.cell? ⟨g, 12, none⟩ = some (.int .i64 7) from (HB5.out.fr x.h (fun h => h)).cell 12)
  have c13 := fun x : WIn (Fr No w5) => (show x.W.cell? ⟨g, 13, none⟩ = some (.string ⟨#[98]⟩) from (HB5.out.fr x.h (fun h => h)).cell 13)
  have c14 := fun x : WIn (Fr No w5) => (show x.W.cell? ⟨g, 14, none⟩ = some (.string ⟨#[]⟩) from (HB5.out.fr x.h (fun h => h)).cell 14)
  have c15 := fun x : WIn (Fr No w5) => (show x.W.cell? ⟨g, 15, none⟩ = some (.int .i64 0) from (HB5.out.fr x.h (fun h => h)).cell 15)
  have c16 := fun x : WIn (Fr No w5) => (show x.W.cell? ⟨g, 16, none⟩ = some (.slice none 0 0) from (HB5.out.fr x.h (fun h => h)).cell 16)
  have c17 := fun x : WIn (Fr No w5) => (show x.W.cell? ⟨g, 17, none⟩ = some (.int .i64 0) from (HB5.out.fr x.h (fun h => h)).cell 17)
  have c18 := fun x : WIn (Fr No w5) => (show x.W.cell? ⟨g, 18, none⟩ = some (.int .i64 0) from (HB5.out.fr x.h (fun h => h)).cell 18)
  have c19 := fun x : WIn (Fr No w5) => (show x.W.cell? ⟨g, 19, none⟩ = some (.string ⟨#[]⟩) from (HB5.out.fr x.h (fun h => h)).cell 19)
  have c20 := fun x : WIn (Fr No w5) => (show x.W.cell? ⟨g, 20, none⟩ = some (.int .i64 0) from (HB5.out.fr x.h (fun h => h)).cell 20)
  have c21 := fun x : WIn (Fr No w5) => (show x.W.cell? ⟨g, 21, none⟩ = some (.int .i64 3) from (HB5.out.fr x.h (fun h => h)).cell 21)
  have c22 := fun x : WIn (Fr No w5) => (show x.W.cell? ⟨g, 22, none⟩ = some (.int .i64 7) from (HB5.out.fr x.h (fun h => h)).cell 22)
  have c23 := fun x : WIn (Fr No w5) => (show x.W.cell? ⟨g, 23, none⟩ = some (.string ⟨#[98]⟩) from (HB5.out.fr x.h (fun h => h)).cell 23)
  have c24 := fun x : WIn (Fr No w5) => (show x.W.cell? ⟨g, 24, none⟩ = some (.string ⟨#[]⟩) from (HB5.out.fr x.h (fun h => h)).cell 24)
  have c25 := fun x : WIn (Fr No w5) => (show x.W.cell? ⟨g, 25, none⟩ = some (.int .i64 0) from (HB5.out.fr x.h (fun h => h)).cell 25)
  have c26 := fun x : WIn (Fr No w5) => (show x.W.cell? ⟨g, 26, none⟩ = some (.slice none 0 0) from (HB5.out.fr x.h (fun h => h)).cell 26)
  have c27 := fun x : WIn (Fr No w5) => (show x.W.cell? ⟨g, 27, none⟩ = some (.int .i64 0) from (HB5.out.fr x.h (fun h => h)).cell 27)
  have c28 := fun x : WIn (Fr No w5) => (show x.W.cell? ⟨g, 28, none⟩ = some (.int .i64 0) from (HB5.out.fr x.h (fun h => h)).cell 28)
  have c29 := fun x : WIn (Fr No w5) => (show x.W.cell? ⟨g, 29, none⟩ = some (.string ⟨#[]⟩) from (HB5.out.fr x.h (fun h => h)).cell 29)
  have hne : Nonempty (WIn (Fr No w5)) := ⟨⟨_, Fr.refl _ _⟩⟩
  go_upto_region 4 with (fail)
  refine wp_region_in (D := Fr No w5) (by kernel_rfl) (by kernel_rfl) (Fr.refl _ _).drew ?_
  repeat (go_big_quiet_step ((first
    | (go_at_call 14; refine Calls.in_of (v := .bool true) _ fun W hW => ?_; (with_reducible refine (HAL.out W _ _ _ _ _ (HB5.out.fr hW (fun h => h)) (HO5.out.no hW)).mono ?_); exact fun _ _ h => ⟨h.1, Fr.trans hW h.2⟩)
    | (go_at_call 6; refine Calls.in_of (v := .bool true) _ fun W hW => ?_; (with_reducible refine (HCL.out W).mono ?_); exact fun _ _ h => ⟨h.1, Fr.trans hW h.2⟩)
    | (go_at_call 12; refine Calls.in_of (v := .bool true) _ fun W hW => ?_; (with_reducible refine (HBG.out W _ _ _ _ _ (HB5.out.fr hW (fun h => h)) (HO5.out.no hW)).mono ?_); exact fun _ _ h => ⟨h.1, Fr.trans hW h.2⟩)
    | (go_at_call 12; refine Calls.in_of (v := .bool false) _ fun W hW => ?_; (with_reducible refine (HBD.out W _ _ _ _ _ (HB5.out.fr hW (fun h => h)) (HO5.out.no hW)).mono ?_); exact fun _ _ h => ⟨h.1, Fr.trans hW h.2⟩))))
  refine wpQuiet_nil ?_
  rintro _ ⟨⟨wq, hq⟩, rfl⟩
  go_wp2
  go_ret
  exact ⟨rfl, HF5.out.trans hq⟩
end Go.Proofs.Ytnphncemghfkbaa
