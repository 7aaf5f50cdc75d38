/- The document's Begins. Places changed, as often as may be; lists held against one another: the walks. Equal lists are the same; ClashRest: the walk. The document's Alike, Rest, Meet. -/
import Derived.Test.YtnphncemghfkbaaQ04
import Derived.Test.YtnphncemghfkbaaQ05
namespace Go.Proofs.Ytnphncemghfkbaa
open Go.RowKit Go.My Go.Maps Go.WideMaps
set_option linter.unusedSimpArgs false
set_option linter.unusedVariables false
attribute [local go_sem ↓] Go.wp_at_zero Go.wp_at_succ

def BgRelR (w : World) (a b : List Od) (iv : Value) (wr : World) : Prop := ∃ i : Nat, i ≤ a.length ∧ iv = .int .i64 (i : Nat) ∧ (∀ j (hj : j < a.length), j < i → rowR a b j a[j] = true) ∧ Fr No w wr
def BiRelR (w : World) (a b : List Od) (i k : Nat) (o : Od) (jv : Value) (wr : World) : Prop := ∃ j : Nat, j ≤ k ∧ jv = .int .i64 (j : Nat) ∧ (b.take j).any (badR a i o) = false ∧ Fr No w wr
theorem begR_false {a b : List Od} {i : Nat} (hi : i < a.length) (h : rowR a b i a[i] = false) : begR a b = false := by
  unfold begR
  rw [List.all_eq_false]
  exact ⟨i, List.mem_range.2 hi, by rw [List.getElem?_eq_getElem hi]; simp [h]⟩
theorem begR_true {a b : List Od} (h : ∀ i (hi : i < a.length), rowR a b i a[i] = true) : begR a b = true := by
  unfold begR
  rw [List.all_eq_true]
  intro i hi
  have hi := List.mem_range.1 hi
  rw [List.getElem?_eq_getElem hi]
  simpa using h i hi
theorem rowR_neg {a b : List Od} {i : Nat} {o : Od} (h : atL (idsO b) o.id < 0) : rowR a b i o = false := by
  unfold rowR
  rw [decide_eq_false (by omega)]
  rfl
theorem rowR_at {a b : List Od} {i k : Nat} {o : Od} (h : atL (idsO b) o.id = k) (hk : k < b.length) : rowR a b i o = (eqO o b[k] && !((b.take k).any (badR a i o))) := by
  unfold rowR
  rw [h, decide_eq_true (by omega), Int.toNat_natCast, List.getElem?_eq_getElem hk]
  rfl
theorem any_takeR {b : List Od} {f : Od → Bool} {j : Nat} (hj : j < b.length) : (b.take (j + 1)).any f = ((b.take j).any f || f b[j]) := by
  rw [List.take_succ_eq_append_getElem hj, List.any_append]
  simp
set_option maxRecDepth 100000 in
set_option maxHeartbeats 8000000 in
theorem refbegins10_any (w : World) (F G : Nat → Prop) (A B : Option Addr) (c d : Nat) (a b : List Od) (ha : Ls w F A c a) (hb : Ls w G B d b) :
    Calls Try.prog 13 #[.slice A a.length c, .slice B b.length d] w fun e w' => e = .returned (.bool (beginsB a b)) ∧ Fr No w w' := by
  rw [← refBegB_eq]
  have H1 : Hid (∀ W, Fr No w W → Calls Try.prog 11 #[.slice A a.length c] W fun e w' => e = .returned (.bool (rightL a)) ∧ Fr No W w') := fun W hW => refright10_any W W F A c a (ha.no hW).ods ha.n
  have H2 : Hid (∀ W, Fr No w W → Calls Try.prog 11 #[.slice B b.length d] W fun e w' => e = .returned (.bool (rightL b)) ∧ Fr No W w') := fun W hW => refright10_any W W G B d b (hb.no hW).ods hb.n
  have HAA : Hid (∀ W x y, Fr No w W → Calls Try.prog 30 #[.slice A a.length c, .agg #[.int .i64 x, .int .i64 y]] W fun e w' => e = .returned (.int .i64 (atL (idsO a) (x, y))) ∧ Fr No W w') := fun W x y hW => at10_any W W F A c a x y (ha.no hW).ods ha.n
  have HAB : Hid (∀ W x y, Fr No w W → Calls Try.prog 30 #[.slice B b.length d, .agg #[.int .i64 x, .int .i64 y]] W fun e w' => e = .returned (.int .i64 (atL (idsO b) (x, y))) ∧ Fr No W w') := fun W x y hW => at10_any W W G B d b x y (hb.no hW).ods hb.n
  have HLA := Lib.hid ha
  have HLB := Lib.hid hb
  have han := ha.n
  have hbn := hb.n
  have HE : Hid (refBegB a b = (rightL a && rightL b && begR a b)) := rfl
  clear ha hb
  cases hra : rightL a
  · rw [hra] at H1
    have HX : Hid (refBegB a b = false) := by show _ = _; rw [HE.out, hra]; rfl
    rw [HX.out]
    clear HE HX H2 HAA HAB HLA HLB
    go_enter Try.func13, Try.ntmps13
    go_wp2_with fail
    (with_reducible refine (H1.out _ (Fr.refl _ _)).mono ?_)
    rintro e w1 ⟨rfl, hf1⟩
    go_wp2
    go_ret
    exact ⟨rfl, hf1⟩
  · rw [hra] at H1
    cases hrb : rightL b
    · rw [hrb] at H2
      have HX : Hid (refBegB a b = false) := by show _ = _; rw [HE.out, hra, hrb]; rfl
      rw [HX.out]
      clear HE HX HAA HAB HLA HLB
      go_enter Try.func13, Try.ntmps13
      go_wp2_with fail
      (with_reducible refine (H1.out _ (Fr.refl _ _)).mono ?_)
      rintro e w1 ⟨rfl, hf1⟩
      go_wp2_with fail
      (with_reducible refine (H2.out _ hf1).mono ?_)
      rintro e w2 ⟨rfl, hf2⟩
      go_wp2
      go_ret
      exact ⟨rfl, hf1.trans hf2⟩
    · rw [hrb] at H2
      rw [hra, hrb] at HE
      have HBF : Hid (∀ i (hi : i < a.length), rowR a b i a[i] = false → refBegB a b = false) := fun i hi h => by rw [HE.out, begR_false hi h]; rfl
      have HBT : Hid ((∀ i (hi : i < a.length), rowR a b i a[i] = true) → refBegB a b = true) := fun h => by rw [HE.out, begR_true h]; rfl
      generalize refBegB a b = res at *
      clear HE hra hrb
      go_enter Try.func13, Try.ntmps13
      go_wp2_with fail
      (with_reducible refine (H1.out _ (Fr.refl _ _)).mono ?_)
      rintro e w1 ⟨rfl, hf1⟩
      go_wp2_with fail
      (with_reducible refine (H2.out _ hf1).mono ?_)
      rintro e w2 ⟨rfl, hf2⟩
      have HF2 := Lib.hid (hf1.trans hf2)
      clear hf1 hf2 H1 H2
      go_wp2
      go_loopw [5] (fun iv wr => BgRelR w a b iv wr) (fun iv _ => a.length - (intOf iv).toNat)
      case atStart => exact ⟨0, Nat.zero_le _, rfl, fun j hj h => absurd h (Nat.not_lt_zero _), HF2.out⟩
      case round =>
        obtain ⟨i, hi, rfl, hall, hfr⟩ := hrel
        have hi62 : (i : Int) ≤ 1000000 := by omega
        by_cases hlt : i < a.length
        · obtain ⟨ad, v, rfl, _, hok, hog, hLg, x0, x1, x2, x3, x4, x5, x6, x7, x8, x9⟩ := (HLA.out.no hfr).ods.at_ i hlt
          obtain ⟨A1, c1, rfl, hc1, hc1'⟩ := hLg.form
          have hii : (i : Int) < (a.length : Int) := by omega
          have HFR := Lib.hid hfr
          have HOK : Hid (a[i].ok ∧ ∀ g ∈ a[i].legs, g.ok) := ⟨hok, hog⟩
          have HLL := Lib.hid hLg
          have HLS := Lib.hid (HLA.out.s _ (List.getElem_mem hlt))
          have HBI := Lib.hid (HBF.out i hlt)
          have HNX : Hid (∀ W, Fr No wr W → rowR a b i a[i] = true → BgRelR w a b (.int .i64 ((i + 1 : Nat) : Int)) W) := fun W hW h => ⟨i + 1, hlt, rfl, fun j hj hji => by
            by_cases e : j < i
            · exact hall j hj e
            · obtain rfl : j = i := by omega
              exact h, hfr.trans hW⟩
          clear hall hfr hok hog hLg
          have HC0 := Lib.hid (HAB.out wr a[i].cl a[i].sq HFR.out)
          go_wp2_with fail
          (with_reducible refine HC0.out.mono ?_)
          rintro e w3 ⟨rfl, hf3⟩
          have HATE : Hid (atL (idsO b) a[i].id = atL (idsO b) (a[i].cl, a[i].sq)) := rfl
          generalize hkv : atL (idsO b) (a[i].cl, a[i].sq) = kv at *
          have HF3 := Lib.hid hf3
          have y0 := hf3.cell_some x0 (fun h => h)
          have y1 := hf3.cell_some x1 (fun h => h)
          have y2 := hf3.cell_some x2 (fun h => h)
          have y3 := hf3.cell_some x3 (fun h => h)
          have y4 := hf3.cell_some x4 (fun h => h)
          have y5 := hf3.cell_some x5 (fun h => h)
          have y6 := hf3.cell_some x6 (fun h => h)
          have y7 := hf3.cell_some x7 (fun h => h)
          have y8 := hf3.cell_some x8 (fun h => h)
          have y9 := hf3.cell_some x9 (fun h => h)
          clear x0 x1 x2 x3 x4 x5 x6 x7 x8 x9
          by_cases hk0 : kv < 0
          · have HR : Hid (res = false) := HBI.out (rowR_neg (by rw [HATE.out]; exact hk0))
            have hd0 : decide (kv < 0) = true := decide_eq_true hk0
            clear y0 y1 y2 y3 y4 y5 y6 y7 y8 y9 hf3 hkv
            go_wp2_with fail
            go_quiet (fail)
            go_wp2
            go_ret
            exact ⟨by rw [HR.out]; rfl, (HFR.out.trans HF3.out).drewN _⟩
          · obtain ⟨k, rfl⟩ : ∃ k : Nat, kv = (k : Int) := ⟨kv.toNat, by omega⟩
            have hkb : k < b.length := by
              have h1 := atL_some hkv
              have := (List.getElem?_eq_some_iff.1 h1).1
              unfold idsO at this
              rwa [List.length_map] at this
            have HROW : Hid (rowR a b i a[i] = (eqO a[i] b[k] && !((b.take k).any (badR a i a[i])))) := rowR_at HATE.out hkb
            have hd0 : decide ((k : Int) < 0) = false := decide_eq_false hk0
            have hkk : (k : Int) < (b.length : Int) := by omega
            have hk62 : (k : Int) ≤ 1000000 := by omega
            obtain ⟨bd, v, rfl, _, hok2, hog2, hLg2, q0, q1, q2, q3, q4, q5, q6, q7, q8, q9⟩ := (HLB.out.no (HFR.out.trans hf3)).ods.at_ k hkb
            obtain ⟨B1, d1, rfl, hd1, hd1'⟩ := hLg2.form
            have HLL2 := Lib.hid hLg2
            have HOK2 : Hid (b[k].ok ∧ ∀ g ∈ b[k].legs, g.ok) := ⟨hok2, hog2⟩
            have HLS2 := Lib.hid (HLB.out.s _ (List.getElem_mem hkb))
            have HC : Hid (∀ W, Fr No w3 W → Calls Try.prog 33 #[a[i].val (.slice A1 a[i].legs.length c1), b[k].val (.slice B1 b[k].legs.length d1)] W fun e w' => e = .returned (.bool (eqO a[i] b[k])) ∧ Fr No W w') := fun W hW => refsameO_any _ _ _ _ _ _ _ (HLL.out.no (HF3.out.trans hW)) (hLg2.no hW)
            have HEQ : Hid (eqO a[i] b[k] = true → a[i] = b[k]) := fun h => ((eqO_iff _ _).1 h)
            have HCQ : Hid (∀ W, Fr No w3 W → W.cell? (bd.add (k * 10)) = some (.int .i64 b[k].cl) ∧ W.cell? ⟨(bd.add (k * 10)).block, (bd.add (k * 10)).off + 1, none⟩ = some (.int .i64 b[k].sq) ∧ W.cell? ⟨(bd.add (k * 10)).block, (bd.add (k * 10)).off + 2, none⟩ = some (.int .i64 b[k].kd) ∧ W.cell? ⟨(bd.add (k * 10)).block, (bd.add (k * 10)).off + 3, none⟩ = some (.string b[k].acct) ∧ W.cell? ⟨(bd.add (k * 10)).block, (bd.add (k * 10)).off + 4, none⟩ = some (.string b[k].peer) ∧ W.cell? ⟨(bd.add (k * 10)).block, (bd.add (k * 10)).off + 5, none⟩ = some (.int .i64 b[k].sum) ∧ W.cell? ⟨(bd.add (k * 10)).block, (bd.add (k * 10)).off + 6, none⟩ = some (.slice B1 b[k].legs.length d1) ∧ W.cell? ⟨(bd.add (k * 10)).block, (bd.add (k * 10)).off + 7, none⟩ = some (.int .i64 b[k].per) ∧ W.cell? ⟨(bd.add (k * 10)).block, (bd.add (k * 10)).off + 8, none⟩ = some (.int .i64 b[k].hold) ∧ W.cell? ⟨(bd.add (k * 10)).block, (bd.add (k * 10)).off + 9, none⟩ = some (.string b[k].note)) := fun W hW => ⟨hW.cell_some q0 (fun h => h), hW.cell_some q1 (fun h => h), hW.cell_some q2 (fun h => h), hW.cell_some q3 (fun h => h), hW.cell_some q4 (fun h => h), hW.cell_some q5 (fun h => h), hW.cell_some q6 (fun h => h), hW.cell_some q7 (fun h => h), hW.cell_some q8 (fun h => h), hW.cell_some q9 (fun h => h)⟩
            have hne : Nonempty (WIn (Fr No w3)) := ⟨⟨_, Fr.refl _ _⟩⟩
            unfold Od.val Od.cs at HC
            simp only [List.toArray] at HC
            clear hok2 hog2 hLg2 hf3 hkv
            generalize hr : eqO a[i] b[k] = r at *
            have Y0 := fun x : WIn (Fr No w3) => x.h.cell_some y0 (fun h => h)
            have Y1 := fun x : WIn (Fr No w3) => x.h.cell_some y1 (fun h => h)
            have Y2 := fun x : WIn (Fr No w3) => x.h.cell_some y2 (fun h => h)
            have Y3 := fun x : WIn (Fr No w3) => x.h.cell_some y3 (fun h => h)
            have Y4 := fun x : WIn (Fr No w3) => x.h.cell_some y4 (fun h => h)
            have Y5 := fun x : WIn (Fr No w3) => x.h.cell_some y5 (fun h => h)
            have Y6 := fun x : WIn (Fr No w3) => x.h.cell_some y6 (fun h => h)
            have Y7 := fun x : WIn (Fr No w3) => x.h.cell_some y7 (fun h => h)
            have Y8 := fun x : WIn (Fr No w3) => x.h.cell_some y8 (fun h => h)
            have Y9 := fun x : WIn (Fr No w3) => x.h.cell_some y9 (fun h => h)
            have Q0 := fun x : WIn (Fr No w3) => x.h.cell_some q0 (fun h => h)
            have Q1 := fun x : WIn (Fr No w3) => x.h.cell_some q1 (fun h => h)
            have Q2 := fun x : WIn (Fr No w3) => x.h.cell_some q2 (fun h => h)
            have Q3 := fun x : WIn (Fr No w3) => x.h.cell_some q3 (fun h => h)
            have Q4 := fun x : WIn (Fr No w3) => x.h.cell_some q4 (fun h => h)
            have Q5 := fun x : WIn (Fr No w3) => x.h.cell_some q5 (fun h => h)
            have Q6 := fun x : WIn (Fr No w3) => x.h.cell_some q6 (fun h => h)
            have Q7 := fun x : WIn (Fr No w3) => x.h.cell_some q7 (fun h => h)
            have Q8 := fun x : WIn (Fr No w3) => x.h.cell_some q8 (fun h => h)
            have Q9 := fun x : WIn (Fr No w3) => x.h.cell_some q9 (fun h => h)
            go_upto_region 7 with (fail)
            cases r
            · have HR : Hid (res = false) := HBI.out (by rw [HROW.out]; rfl)
              clear y0 y1 y2 y3 y4 y5 y6 y7 y8 y9 q0 q1 q2 q3 q4 q5 q6 q7 q8 q9
              refine wp_region_in (D := Fr No w3) (by kernel_rfl) (by kernel_rfl) (Fr.refl _ _).drew ?_
              repeat (go_big_quiet_step ((first | (go_at_call 33; refine Calls.in_of (v := .bool false) _ fun W hW => ?_; (with_reducible refine (HC.out W hW).mono ?_); exact fun _ _ h => ⟨h.1, Fr.trans hW h.2⟩))))
              refine wpQuiet_nil ?_
              rintro wq ⟨⟨w0, hq⟩, hw0⟩
              obtain rfl : wq = w0 := hw0
              go_wp2
              go_ret
              exact ⟨by rw [HR.out]; rfl, (HFR.out.trans HF3.out).trans hq⟩
            · refine wp_region_in (D := Fr No w3) (by kernel_rfl) (by kernel_rfl) (Fr.refl _ _).drew ?_
              repeat (go_big_quiet_step ((first | (go_at_call 33; refine Calls.in_of (v := .bool true) _ fun W hW => ?_; (with_reducible refine (HC.out W hW).mono ?_); exact fun _ _ h => ⟨h.1, Fr.trans hW h.2⟩))))
              refine wpQuiet_nil ?_
              rintro wq ⟨⟨w0, hq⟩, hw0⟩
              obtain rfl : wq = w0 := hw0
              have HF4 := Lib.hid (HF3.out.trans hq)
              have HQ4 : Hid (∀ W, Fr No wq W → _) := fun W hW => HCQ.out W (hq.trans hW)
              have HLK : Hid (∀ W, Fr No wq W → LgS W (Lt w3.heap.size) (.slice B1 b[k].legs.length d1) b[k].legs) := fun W hW => HLL2.out.no (hq.trans hW)
              have HABK : Hid (a[i] = b[k]) := HEQ.out rfl
              clear y0 y1 y2 y3 y4 y5 y6 y7 y8 y9 q0 q1 q2 q3 q4 q5 q6 q7 q8 q9 Y0 Y1 Y2 Y3 Y4 Y5 Y6 Y7 Y8 Y9 Q0 Q1 Q2 Q3 Q4 Q5 Q6 Q7 Q8 Q9 hq HC
              go_wp2
              go_loopw [7] (fun jv wx => BiRelR wq a b i k a[i] jv wx) (fun jv _ => k - (intOf jv).toNat)
              case atStart => exact ⟨0, Nat.zero_le _, rfl, (by rw [List.take_zero]; rfl), Fr.refl _ _⟩
              case round =>
                obtain ⟨j, hj, rfl, hno, hf5⟩ := hrel
                have hj62 : (j : Int) ≤ 1000000 := by omega
                by_cases hjk : j < k
                · have hjb : j < b.length := by omega
                  have hjki : (j : Int) < (k : Int) := by omega
                  have hjbi : (j : Int) < (b.length : Int) := by omega
                  obtain ⟨bd2, v, e2, _, hok3, hog3, hLg3, p0, p1, p2, p3, p4, p5, p6, p7, p8, p9⟩ := (HLB.out.no ((HFR.out.trans HF4.out).trans hf5)).ods.at_ j hjb
                  injection e2 with e2
                  subst e2
                  obtain ⟨B2, d2, rfl, hd2, hd2'⟩ := hLg3.form
                  have HBAD : Hid (badR a i a[i] b[j] = (clashB b[j] b[k] && (decide (atL (idsO a) (b[j].cl, b[j].sq) < 0) || decide ((i : Int) < atL (idsO a) (b[j].cl, b[j].sq))))) := by
                    show _ = _
                    rw [HABK.out]
                    rfl
                  have HTK : Hid ((b.take (j + 1)).any (badR a i a[i]) = ((b.take j).any (badR a i a[i]) || badR a i a[i] b[j])) := any_takeR hjb
                  have HROWF : Hid (badR a i a[i] b[j] = true → res = false) := fun h => HBI.out (by
                    rw [HROW.out]
                    have : (b.take k).any (badR a i a[i]) = true := List.any_eq_true.2 ⟨b[j], List.mem_take_iff_getElem.2 ⟨j, by omega, rfl⟩, h⟩
                    rw [this]
                    simp)
                  have HNJ : Hid (∀ W, Fr No wr W → badR a i a[i] b[j] = false → BiRelR wq a b i k a[i] (.int .i64 ((j + 1 : Nat) : Int)) W) := fun W hW h => ⟨j + 1, hjk, rfl, by rw [HTK.out, hno, h]; rfl, hf5.trans hW⟩
                  have HC3 := Lib.hid (HAA.out wr b[j].cl b[j].sq ((HFR.out.trans HF4.out).trans hf5))
                  have HF5 := Lib.hid hf5
                  have HC2 : Hid (∀ W, Fr No wr W → Calls Try.prog 7 #[b[j].val (.slice B2 b[j].legs.length d2), b[k].val (.slice B1 b[k].legs.length d1)] W fun e w' => e = .returned (.bool (clashB b[j] b[k])) ∧ Fr No W w') := fun W hW => refclash_any _ _ _ _ _ _ W hok3 hog3 HOK2.out.1 HOK2.out.2 (hLg3.no hW) (HLK.out W (hf5.trans hW)) (HLB.out.s _ (List.getElem_mem hjb)) HLS2.out
                  unfold Od.val Od.cs at HC2
                  simp only [List.toArray] at HC2
                  clear hok3 hog3 hLg3 hno HTK
                  go_wp2_with fail
                  (with_reducible refine HC3.out.mono ?_)
                  rintro e w6 ⟨rfl, hf6⟩
                  have HF6 := Lib.hid hf6
                  have HC4 : Hid (∀ W, Fr No w6 W → _) := fun W hW => HC2.out W (hf6.trans hW)
                  have HNJ6 : Hid (∀ W, Fr No w6 W → _) := fun W hW => HNJ.out W (hf6.trans hW)
                  obtain ⟨q0, q1, q2, q3, q4, q5, q6, q7, q8, q9⟩ := HQ4.out _ (hf5.trans hf6)
                  have hne : Nonempty (WIn (Fr No w6)) := ⟨⟨_, Fr.refl _ _⟩⟩
                  have z0 := HF6.out.cell_some p0 (fun h => h)
                  have z1 := HF6.out.cell_some p1 (fun h => h)
                  have z2 := HF6.out.cell_some p2 (fun h => h)
                  have z3 := HF6.out.cell_some p3 (fun h => h)
                  have z4 := HF6.out.cell_some p4 (fun h => h)
                  have z5 := HF6.out.cell_some p5 (fun h => h)
                  have z6 := HF6.out.cell_some p6 (fun h => h)
                  have z7 := HF6.out.cell_some p7 (fun h => h)
                  have z8 := HF6.out.cell_some p8 (fun h => h)
                  have z9 := HF6.out.cell_some p9 (fun h => h)
                  have P0 := fun x : WIn (Fr No w6) => x.h.cell_some z0 (fun h => h)
                  have P1 := fun x : WIn (Fr No w6) => x.h.cell_some z1 (fun h => h)
                  have P2 := fun x : WIn (Fr No w6) => x.h.cell_some z2 (fun h => h)
                  have P3 := fun x : WIn (Fr No w6) => x.h.cell_some z3 (fun h => h)
                  have P4 := fun x : WIn (Fr No w6) => x.h.cell_some z4 (fun h => h)
                  have P5 := fun x : WIn (Fr No w6) => x.h.cell_some z5 (fun h => h)
                  have P6 := fun x : WIn (Fr No w6) => x.h.cell_some z6 (fun h => h)
                  have P7 := fun x : WIn (Fr No w6) => x.h.cell_some z7 (fun h => h)
                  have P8 := fun x : WIn (Fr No w6) => x.h.cell_some z8 (fun h => h)
                  have P9 := fun x : WIn (Fr No w6) => x.h.cell_some z9 (fun h => h)
                  have Q0 := fun x : WIn (Fr No w6) => x.h.cell_some q0 (fun h => h)
                  have Q1 := fun x : WIn (Fr No w6) => x.h.cell_some q1 (fun h => h)
                  have Q2 := fun x : WIn (Fr No w6) => x.h.cell_some q2 (fun h => h)
                  have Q3 := fun x : WIn (Fr No w6) => x.h.cell_some q3 (fun h => h)
                  have Q4 := fun x : WIn (Fr No w6) => x.h.cell_some q4 (fun h => h)
                  have Q5 := fun x : WIn (Fr No w6) => x.h.cell_some q5 (fun h => h)
                  have Q6 := fun x : WIn (Fr No w6) => x.h.cell_some q6 (fun h => h)
                  have Q7 := fun x : WIn (Fr No w6) => x.h.cell_some q7 (fun h => h)
                  have Q8 := fun x : WIn (Fr No w6) => x.h.cell_some q8 (fun h => h)
                  have Q9 := fun x : WIn (Fr No w6) => x.h.cell_some q9 (fun h => h)
                  clear hf5 hf6 HC2 HC3 HNJ p0 p1 p2 p3 p4 p5 p6 p7 p8 p9
                  generalize atL (idsO a) (b[j].cl, b[j].sq) = n at *
                  generalize hcv : clashB b[j] b[k] = r at *
                  clear hcv
                  go_upto_region 13 with (fail)
                  clear q0 q1 q2 q3 q4 q5 q6 q7 q8 q9 z0 z1 z2 z3 z4 z5 z6 z7 z8 z9
                  cases r
                  · refine wp_region_in (D := Fr No w6) (by kernel_rfl) (by kernel_rfl) (Fr.refl _ _).drew ?_
                    repeat (go_big_quiet_step ((first | (go_at_call 7; refine Calls.in_of (v := .bool false) _ fun W hW => ?_; (with_reducible refine (HC4.out W hW).mono ?_); exact fun _ _ h => ⟨h.1, Fr.trans hW h.2⟩))))
                    refine wpQuiet_nil ?_
                    rintro wz ⟨⟨w0, hz⟩, hw0⟩
                    obtain rfl : wz = w0 := hw0
                    have HRL := Lib.hid (HNJ6.out wz hz (by rw [HBAD.out]; rfl))
                    go_wp2
                    go_roundw
                    case rel =>
                      obtain ⟨j', h1, h2, h3⟩ := HRL.out
                      exact ⟨j', h1, by rw [← h2]; go_num, h3⟩
                    case measure => simp [intOf]; omega
                  · by_cases hn0 : n < 0
                    · have hd1 : decide (n < 0) = true := decide_eq_true hn0
                      have HR : Hid (res = false) := HROWF.out (by rw [HBAD.out, hd1]; rfl)
                      refine wp_region_in (D := Fr No w6) (by kernel_rfl) (by kernel_rfl) (Fr.refl _ _).drew ?_
                      repeat (go_big_quiet_step ((first | (go_at_call 7; refine Calls.in_of (v := .bool true) _ fun W hW => ?_; (with_reducible refine (HC4.out W hW).mono ?_); exact fun _ _ h => ⟨h.1, Fr.trans hW h.2⟩))))
                      refine wpQuiet_nil ?_
                      rintro wz ⟨⟨w0, hz⟩, hw0⟩
                      obtain rfl : wz = w0 := hw0
                      go_wp2
                      go_ret
                      exact ⟨by rw [HR.out]; rfl, (((HFR.out.trans HF4.out).trans HF5.out).trans HF6.out).trans hz⟩
                    · have hd1 : decide (n < 0) = false := decide_eq_false hn0
                      by_cases hn1 : (i : Int) < n
                      · have hd2 : decide ((i : Int) < n) = true := decide_eq_true hn1
                        have HR : Hid (res = false) := HROWF.out (by rw [HBAD.out, hd1, hd2]; rfl)
                        refine wp_region_in (D := Fr No w6) (by kernel_rfl) (by kernel_rfl) (Fr.refl _ _).drew ?_
                        repeat (go_big_quiet_step ((first | (go_at_call 7; refine Calls.in_of (v := .bool true) _ fun W hW => ?_; (with_reducible refine (HC4.out W hW).mono ?_); exact fun _ _ h => ⟨h.1, Fr.trans hW h.2⟩))))
                        refine wpQuiet_nil ?_
                        rintro wz ⟨⟨w0, hz⟩, hw0⟩
                        obtain rfl : wz = w0 := hw0
                        go_wp2
                        go_ret
                        exact ⟨by rw [HR.out]; rfl, (((HFR.out.trans HF4.out).trans HF5.out).trans HF6.out).trans hz⟩
                      · have hd2 : decide ((i : Int) < n) = false := decide_eq_false hn1
                        refine wp_region_in (D := Fr No w6) (by kernel_rfl) (by kernel_rfl) (Fr.refl _ _).drew ?_
                        repeat (go_big_quiet_step ((first | (go_at_call 7; refine Calls.in_of (v := .bool true) _ fun W hW => ?_; (with_reducible refine (HC4.out W hW).mono ?_); exact fun _ _ h => ⟨h.1, Fr.trans hW h.2⟩))))
                        refine wpQuiet_nil ?_
                        rintro wz ⟨⟨w0, hz⟩, hw0⟩
                        obtain rfl : wz = w0 := hw0
                        have HRL := Lib.hid (HNJ6.out wz hz (by rw [HBAD.out, hd1, hd2]; rfl))
                        go_wp2
                        go_roundw
                        case rel =>
                          obtain ⟨j', h1, h2, h3⟩ := HRL.out
                          exact ⟨j', h1, by rw [← h2]; go_num, h3⟩
                        case measure => simp [intOf]; omega
                · obtain rfl : j = k := by omega
                  have HRL := Lib.hid (HNX.out wr (HF4.out.trans hf5) (by rw [HROW.out, hno]; rfl))
                  clear hno hf5
                  go_wp2
                  go_roundw
                  case rel =>
                    obtain ⟨i', h1, h2, h3⟩ := HRL.out
                    exact ⟨i', h1, by rw [← h2]; go_num, h3⟩
                  case measure => simp [intOf]; omega
        · obtain rfl : i = a.length := by omega
          have HR : Hid (res = true) := HBT.out fun j hj => hall j hj hj
          clear hall
          go_wp2
          go_ret
          exact ⟨by rw [HR.out]; rfl, hfr⟩
end Go.Proofs.Ytnphncemghfkbaa

namespace Go.Proofs.Ytnphncemghfkbaa
open Go.RowKit Go.My Go.Maps Go.WideMaps
set_option linter.unusedSimpArgs false
set_option linter.unusedVariables false
attribute [local go_sem ↓] Go.wp_at_zero Go.wp_at_succ

def Tr : Nat → Prop := fun _ => True
theorem OwnN.ls {B : Nat} {w : World} {A : Option Addr} {c : Nat} {l : List Od} (h : OwnN B w (.slice A l.length c) l) (hn : l.length ≤ 1000000) (hs : ∀ o ∈ l, o.legs.length ≤ 100000) : Ls w Tr A c l := by
  obtain ⟨A2, c2, e, h1, h2⟩ := h.form
  injection e with e1 e2 e3
  subst e1 e3
  exact ⟨h.ods.more fun _ _ => trivial, hn, h1, hs⟩
/-- handed back: a list that is alike -/
def MxRet (w : World) (l : List Od) (e : Ending) (w' : World) : Prop := ∃ A c m, e = .returned (.slice A m.length c) ∧ Ls w' Tr A c m ∧ m.length = l.length ∧ Ak Od.id clashB l m ∧ Fr No w w' ∧ c ≤ maxLen
def MxRel (w : World) (l : List Od) (n : Nat) (lv iv : Value) (wr : World) : Prop := ∃ k A c m, lv = .slice A (m : List Od).length c ∧ iv = .int .i64 (k : Nat) ∧ k ≤ n ∧ Ls wr Tr A c m ∧ m.length = l.length ∧ Ak Od.id clashB l m ∧ Fr No w wr ∧ c ≤ maxLen
theorem len_succ {n : Nat} (h : n ≤ 1000000) : wrap64 ((n : Int) + 1) = (n : Int) + 1 ∧ IntKind.u64.wrap ((n : Int) + 1) = (n : Int) + 1 ∧ ¬ ((n : Int) + 1 = 0) := by
  refine ⟨IntWalk.wrap64_in _ ⟨by omega, by omega⟩, ?_, by omega⟩
  rw [IntKind.wrap_u64]
  omega
theorem j_in {j n : Nat} (h : j < n + 1) (hn : n ≤ 1000000) : In64 (j : Int) := by
  unfold In64
  omega
theorem swapI_nat {l m : List Od} {i : Int} (h : swapI l i = some m) : ∃ k, swapO l k = some m := by
  unfold swapI at h
  split at h
  · exact ⟨_, h⟩
  · cases h
theorem swap_mem {l m : List Od} {i : Nat} (h : swapO l i = some m) : m.length = l.length ∧ ∀ o ∈ m, o ∈ l := by
  obtain ⟨p, x, y, r, rfl, rfl, -, -⟩ := swap_form h
  refine ⟨by simp, fun o ho => ?_⟩
  simp only [List.mem_append, List.mem_cons] at ho ⊢
  rcases ho with ho | ho | ho | ho
  · exact .inl ho
  · exact .inr (.inr (.inl ho))
  · exact .inr (.inl ho)
  · exact .inr (.inr (.inr ho))
end Go.Proofs.Ytnphncemghfkbaa

namespace Go.Proofs.Ytnphncemghfkbaa
open Go.RowKit Go.My Go.Maps Go.WideMaps
set_option linter.unusedSimpArgs false
set_option linter.unusedVariables false
attribute [local go_sem ↓] Go.wp_at_zero Go.wp_at_succ

def SmRel (w : World) (n : Nat) (iv : Value) (wr : World) : Prop := ∃ k : Nat, k ≤ n ∧ iv = .int .i64 k ∧ Fr No w wr
set_option maxRecDepth 100000 in
set_option maxHeartbeats 1000000 in
theorem same10_eq (w : World) (F G : Nat → Prop) (A B : Option Addr) (c d : Nat) (l : List Od) (ha : Ls w F A c l) (hb : Ls w G B d l) :
    Calls Try.prog 16 #[.slice A l.length c, .slice B l.length d] w fun e w' => e = .returned (.bool true) ∧ Fr No w w' := by
  have HA := Lib.hid ha
  have HB := Lib.hid hb
  have hn := ha.n
  clear ha hb
  go_enter Try.func16, Try.ntmps16
  go_wp2
  go_loopw [5] (fun iv wr => SmRel w l.length iv wr) (fun iv _ => l.length - (intOf iv).toNat)
  case atStart => exact ⟨0, Nat.zero_le _, rfl, Fr.refl _ _⟩
  case round =>
    obtain ⟨k, hk, rfl, hfr⟩ := hrel
    have hk62 : (k : Int) ≤ 1000000 := by omega
    by_cases hlt : k < l.length
    · obtain ⟨ad, v, rfl, _, hok, hg, hL, q0, q1, q2, q3, q4, q5, q6, q7, q8, q9⟩ := (HA.out.no hfr).ods.at_ k hlt
      obtain ⟨bd, u, rfl, _, hok2, hg2, hM, r0, r1, r2, r3, r4, r5, r6, r7, r8, r9⟩ := (HB.out.no hfr).ods.at_ k hlt
      obtain ⟨vA, vc, rfl, -, -⟩ := hL.form
      obtain ⟨uA, uc, rfl, -, -⟩ := hM.form
      have HS : Hid (∀ W, Fr No wr W → Calls Try.prog 33 #[l[k].val (.slice vA l[k].legs.length vc), l[k].val (.slice uA l[k].legs.length uc)] W fun e w' => e = .returned (.bool true) ∧ Fr No W w') := fun W hW => by
        have h := refsameO_any _ _ l[k] l[k] _ _ W (hL.no hW) (hM.no hW)
        rw [(eqO_iff _ _).2 rfl] at h
        exact h
      unfold Od.val Od.cs at HS
      simp only [List.toArray] at HS
      have HFR := Lib.hid hfr
      have HLT : Hid (k + 1 ≤ l.length) := hlt
      have hkl : (k : Int) < l.length := by omega
      clear hok hg hL hok2 hg2 hM hfr
      generalize l[k].legs.length = vn at *
      generalize l[k].cl = cl at *
      generalize l[k].sq = sq at *
      generalize l[k].kd = kd at *
      generalize l[k].acct = acct at *
      generalize l[k].peer = peer at *
      generalize l[k].sum = sum at *
      generalize l[k].per = per at *
      generalize l[k].hold = hold at *
      generalize l[k].note = note at *
      have xa0 := fun x : WIn (Fr No wr) => x.h.cell_some q0 (fun h => h)
      have xb0 := fun x : WIn (Fr No wr) => x.h.cell_some r0 (fun h => h)
      have xa1 := fun x : WIn (Fr No wr) => x.h.cell_some q1 (fun h => h)
      have xb1 := fun x : WIn (Fr No wr) => x.h.cell_some r1 (fun h => h)
      have xa2 := fun x : WIn (Fr No wr) => x.h.cell_some q2 (fun h => h)
      have xb2 := fun x : WIn (Fr No wr) => x.h.cell_some r2 (fun h => h)
      have xa3 := fun x : WIn (Fr No wr) => x.h.cell_some q3 (fun h => h)
      have xb3 := fun x : WIn (Fr No wr) => x.h.cell_some r3 (fun h => h)
      have xa4 := fun x : WIn (Fr No wr) => x.h.cell_some q4 (fun h => h)
      have xb4 := fun x : WIn (Fr No wr) => x.h.cell_some r4 (fun h => h)
      have xa5 := fun x : WIn (Fr No wr) => x.h.cell_some q5 (fun h => h)
      have xb5 := fun x : WIn (Fr No wr) => x.h.cell_some r5 (fun h => h)
      have xa6 := fun x : WIn (Fr No wr) => x.h.cell_some q6 (fun h => h)
      have xb6 := fun x : WIn (Fr No wr) => x.h.cell_some r6 (fun h => h)
      have xa7 := fun x : WIn (Fr No wr) => x.h.cell_some q7 (fun h => h)
      have xb7 := fun x : WIn (Fr No wr) => x.h.cell_some r7 (fun h => h)
      have xa8 := fun x : WIn (Fr No wr) => x.h.cell_some q8 (fun h => h)
      have xb8 := fun x : WIn (Fr No wr) => x.h.cell_some r8 (fun h => h)
      have xa9 := fun x : WIn (Fr No wr) => x.h.cell_some q9 (fun h => h)
      have xb9 := fun x : WIn (Fr No wr) => x.h.cell_some r9 (fun h => h)
      clear q0 r0 q1 r1 q2 r2 q3 r3 q4 r4 q5 r5 q6 r6 q7 r7 q8 r8 q9 r9
      have hne : Nonempty (WIn (Fr No wr)) := ⟨⟨_, Fr.refl _ _⟩⟩
      go_upto_region 6 with (fail)
      refine wp_region_in (D := Fr No wr) (by kernel_rfl) (by kernel_rfl) (Fr.refl _ _).drew ?_
      repeat (go_big_quiet_step ((first | (go_at_call 33; refine Calls.in_of (v := .bool true) _ fun W hW => ?_; (with_reducible refine (HS.out W hW).mono ?_); exact fun _ _ h => ⟨h.1, Fr.trans hW h.2⟩))))
      refine wpQuiet_nil ?_
      rintro _ ⟨⟨w2, hq2⟩, rfl⟩
      clear xa0 xa1 xa2 xa3 xa4 xa5 xa6 xa7 xa8 xa9 xb0 xb1 xb2 xb3 xb4 xb5 xb6 xb7 xb8 xb9
      go_wp2
      go_roundw
      case rel => exact ⟨k + 1, HLT.out, by go_num, HFR.out.trans hq2⟩
      case measure => have := HLT.out; simp [intOf]; omega
    · obtain rfl : k = l.length := by omega
      go_wp2
      go_ret
      exact ⟨rfl, hfr⟩
theorem OdsS.up {w0 w : World} {F : Nat → Prop} {A : Option Addr} {l : List Od} (h : OdsS w0 w F A l) (hf : Fr No w0 w) : OdsS w w F A l := by
  obtain ⟨cells, hr, hE⟩ := h
  exact ⟨cells, hr, each_imp hE fun cs o ⟨v, h1, h2, h3, h4⟩ => ⟨v, h1, h2, h3, (h4.no hf).more fun k hk => Nat.lt_of_lt_of_le hk hf.size⟩⟩
theorem few_s {l : List Od} {n : Nat} : ∀ o ∈ fewO l n, o.legs.length ≤ 100000 := fun o ho => by
  unfold fewO at ho
  obtain ⟨x, _, rfl⟩ := List.mem_map.1 ho
  unfold Od.few8
  simp only [List.length_take]
  omega
/-- the list that a law speaks of -/
def lawL (l : List Od) (n : Nat) : List Od := ownO (fewO l n)
theorem lawL_len (l : List Od) (n : Nat) : (lawL l n).length ≤ n := by
  have h1 := ownT_len (fewO l n) (fewO l n).length
  have h2 := fewO_length l n
  show (ownO (fewO l n)).length ≤ n
  unfold ownO
  omega
theorem lawL_rt (l : List Od) (n : Nat) : Rt Od.id (lawL l n) := own_rt _
theorem lawL_s (l : List Od) (n : Nat) : ∀ o ∈ lawL l n, o.legs.length ≤ 100000 := fun o ho => few_s o (mem_own ho)
theorem lawL_ls {w0 w : World} {F : Nat → Prop} {A : Option Addr} {c n : Nat} {l : List Od} (h : OdsS w0 w F A (lawL l n)) (hf : Fr No w0 w) (hc : (lawL l n).length ≤ c) (hn : n ≤ 1000) : Ls w Tr A c (lawL l n) :=
  ⟨(h.up hf).more fun _ _ => trivial, by have := lawL_len l n; omega, hc, lawL_s l n⟩
/-- no orders -/
theorem Ls.nil (w : World) (c : Nat) : Ls w Tr none c [] := ⟨⟨[], Rd.none_, ⟨rfl, fun i x hx => by simp at hx⟩⟩, by simp, by simp, fun o ho => by cases ho⟩
theorem begins_refl {a : List Od} (h : Rt Od.id a) : beginsB a a = true := (beginsB_iff _ _).2 (Bg.refl h)
theorem begins_nil {a : List Od} (h : Rt Od.id a) : beginsB [] a = true := (beginsB_iff _ _).2 (Bg.nil h)
theorem rest_nil {b : List Od} (h : Rt Od.id b) : restO [] b = b := by
  unfold restO
  rw [begins_nil h, if_pos rfl]
  exact others_nil b
theorem rest_self {b : List Od} (h : Rt Od.id b) : restO b b = [] := by
  unfold restO
  rw [begins_refl h, if_pos rfl]
  exact others_self b
theorem rest_len {a b : List Od} (h : beginsB a b = true) : a.length + (restO a b).length = b.length := by
  have h1 := (Bg.rest clashB_comm ((beginsB_iff _ _).1 h)).1
  unfold restO
  rw [if_pos h]
  rw [List.length_append] at h1
  exact h1
theorem mem_rest {a b : List Od} {o : Od} (h : o ∈ restO a b) : o ∈ b ∧ o.id ∉ idsO a := by
  unfold restO at h
  split at h
  · exact mem_others.1 h
  · cases h
end Go.Proofs.Ytnphncemghfkbaa

namespace Go.Proofs.Ytnphncemghfkbaa
open Go.RowKit Go.My Go.Maps Go.WideMaps
set_option linter.unusedSimpArgs false
set_option linter.unusedVariables false
attribute [local go_sem ↓] Go.wp_at_zero Go.wp_at_succ

theorem upX {w0 w : World} {F : Nat → Prop} {A : Option Addr} {l : List Od} (h : OdsS w0 w F A l) (hf : Fr No w0 w) : OdsS w w F A l := by
  obtain ⟨cells, hr, hE⟩ := h
  exact ⟨cells, hr, each_imp hE fun cs o ⟨v, h1, h2, h3, h4⟩ => ⟨v, h1, h2, h3, (h4.no hf).more fun k hk => Nat.lt_of_lt_of_le hk hf.size⟩⟩
theorem odr_oneX {w : World} (cs : List Value) (o : Od) (h : OdR w cs o) : ∀ y ∈ cs, y.oneCell' = true := by
  obtain ⟨v, h1, h2, h3, h4⟩ := h
  exact odrf_one cs o ⟨v, h1, h2, h3, h4⟩
theorem outO_len (a b : List Od) : (outO a b).length ≤ b.length := by
  unfold outO others
  exact List.length_filter_le _ _
set_option maxRecDepth 100000 in
theorem refalike10_any (w : World) (F G : Nat → Prop) (A B : Option Addr) (c d : Nat) (a b : List Od) (ha : Ls w F A c a) (hb : Ls w G B d b) :
    Calls Try.prog 15 #[.slice A a.length c, .slice B b.length d] w fun e w' => e = .returned (.bool (alikeB a b)) ∧ Fr No w w' := by
  have H1 := Lib.hid (refbegins10_any w F G A B c d a b ha hb)
  unfold alikeB
  clear ha hb
  generalize beginsB a b = r1 at *
  by_cases he : a.length = b.length
  · rw [decide_eq_true he, Bool.true_and]
    go_enter Try.func15, Try.ntmps15
    have hei : ((a.length : Int) == (b.length : Int)) = true := by rw [he]; exact beq_self_eq_true _
    rw [he] at H1
    generalize a.length = n at *
    subst he
    go_wp2_with fail
    (with_reducible refine H1.out.mono ?_)
    rintro e w1 ⟨rfl, hf1⟩
    go_wp2
    go_ret
    exact ⟨rfl, hf1⟩
  · rw [decide_eq_false he, Bool.false_and]
    have hei : ((a.length : Int) == (b.length : Int)) = false := beq_eq_false_iff_ne.2 (by omega)
    have hen : (a.length == b.length) = false := beq_eq_false_iff_ne.2 he
    go_enter Try.func15, Try.ntmps15
    go_wp2
    go_ret
    exact ⟨rfl, Fr.refl _ _⟩
def LsRet (w : World) (l : List Od) (e : Ending) (w' : World) : Prop := ∃ A c, e = .returned (.slice A l.length c) ∧ Ls w' Tr A c l ∧ Fr No w w'
set_option maxRecDepth 100000 in
theorem refrest10_any (w : World) (F G : Nat → Prop) (A B : Option Addr) (c d : Nat) (a b : List Od) (ha : Ls w F A c a) (hb : Ls w G B d b) :
    Calls Try.prog 18 #[.slice A a.length c, .slice B b.length d] w (LsRet w (restO a b)) := by
  have H1 := Lib.hid (refbegins10_any w F G A B c d a b ha hb)
  have H2 : Hid (∀ W, Fr No w W → Calls Try.prog 28 #[.slice A a.length c, .slice B b.length d] W (LsRet W (outO a b))) := fun W hW => (others10_any W W F G A c a B d b (ha.no hW).ods (hb.no hW).ods ha.n hb.n).mono fun e w' h => by
    obtain ⟨A1, c1, rfl, ho, h1, h2, hf1⟩ := h
    exact ⟨A1, c1, rfl, ⟨(upX ho hf1).more fun _ _ => trivial, by have := outO_len a b; have := hb.n; exact Nat.le_trans (outO_len a b) hb.n, h1, fun o ho => hb.s o (mem_others.1 ho).1⟩, hf1⟩
  unfold restO
  clear ha hb
  generalize beginsB a b = r1 at *
  cases r1
  · rw [if_neg (by decide)]
    go_enter Try.func18, Try.ntmps18
    go_wp2_with fail
    (with_reducible refine H1.out.mono ?_)
    rintro e w1 ⟨rfl, hf1⟩
    go_wp2
    go_ret
    exact ⟨none, 0, rfl, Ls.nil _ _, hf1⟩
  · rw [if_pos rfl]
    generalize outO a b = r at *
    go_enter Try.func18, Try.ntmps18
    go_wp2_with fail
    (with_reducible refine H1.out.mono ?_)
    rintro e w1 ⟨rfl, hf1⟩
    go_wp2_with fail
    (with_reducible refine (H2.out _ hf1).mono ?_)
    rintro e w2 ⟨A2, c2, rfl, hl, hf2⟩
    go_wp2
    go_ret
    exact ⟨A2, c2, rfl, hl, hf1.trans hf2⟩
def LsRet2 (w : World) (l : List Od) (r : Bool) (e : Ending) (w' : World) : Prop := ∃ A c, e = .returned (.tuple #[.slice A l.length c, .bool r]) ∧ Ls w' Tr A c l ∧ Fr No w w'
set_option maxRecDepth 100000 in
set_option maxHeartbeats 2000000 in
theorem refmeet10_any (w : World) (F G : Nat → Prop) (A B : Option Addr) (c d : Nat) (a b : List Od) (ha : Ls w F A c a) (hb : Ls w G B d b) (hab : a.length + b.length ≤ 1000000) :
    Calls Try.prog 9 #[.slice A a.length c, .slice B b.length d] w (LsRet2 w (retMeet a b) (meetB a b)) := by
  have HLE : Hid ((outO a b).length ≤ b.length) := outO_len a b
  have HSL : Hid (∀ o ∈ meetO a b, o.legs.length ≤ 100000) := fun o ho => by
    unfold meetO outO at ho
    rcases List.mem_append.1 ho with ho | ho
    · exact ha.s o ho
    · exact hb.s o (mem_others.1 ho).1
  have HML : Hid ((meetO a b).length = a.length + (outO a b).length) := by show _ = _; unfold meetO; rw [List.length_append]
  have HLS : Hid (∀ W A1 c1, Fr No w W → OwnO w W (.slice A1 (a.length + (outO a b).length) c1) (meetO a b) → Ls W Tr A1 c1 (meetO a b)) := fun W A1 c1 hW ho => by
    have hle := HLE.out
    have hlen := HML.out
    obtain ⟨A2, c2, e2, hc1, hc2⟩ := ho.form
    rw [hlen] at e2
    injection e2 with e3 e4 e5
    subst e3 e5
    exact ⟨(upX ho.ods hW).more fun _ _ => trivial, by rw [hlen]; omega, hc1, HSL.out⟩
  have H4 : Hid (∀ W A1 c1, Fr No w W → Ls W Tr A1 c1 (meetO a b) → Calls Try.prog 13 #[.slice A a.length c, .slice A1 (a.length + (outO a b).length) c1] W fun e w' => e = .returned (.bool (beginsB a (meetO a b))) ∧ Fr No W w') := fun W A1 c1 hW ho => by
    have h := refbegins10_any W F _ A A1 c c1 a (meetO a b) (ha.no hW) ho
    rw [HML.out] at h
    exact h
  have H5 : Hid (∀ W A1 c1, Fr No w W → Ls W Tr A1 c1 (meetO a b) → Calls Try.prog 13 #[.slice B b.length d, .slice A1 (a.length + (outO a b).length) c1] W fun e w' => e = .returned (.bool (beginsB b (meetO a b))) ∧ Fr No W w') := fun W A1 c1 hW ho => by
    have h := refbegins10_any W G _ B A1 d c1 b (meetO a b) (hb.no hW) ho
    rw [HML.out] at h
    exact h
  have H2 : Hid (∀ W, Fr No w W → Calls Try.prog 28 #[.slice A a.length c, .slice B b.length d] W (FewRet w W (outO a b))) := fun W hW => others10_any w W F G A c a B d b (ha.ods.fr hW (fun _ _ _ h => h)) (hb.ods.fr hW (fun _ _ _ h => h)) ha.n hb.n
  obtain ⟨cells, hr, hE⟩ := ha.ods
  have HS0 : Hid (Src Try.prog w 10 22 (.slice A a.length c) a.length cells) := Src.of_rd hr (each_all (P := fun y => y.oneCell' = true) (by omega) hE odr_oneX) Try.underlying22
  have HEA := Lib.hid hE
  have HBX : Hid (0 + a.length ≤ maxLen ∧ (0 + a.length) * 120 ≤ 140737488355328 ∧ a.length + (outO a b).length ≤ maxLen ∧ (a.length + (outO a b).length) * 120 ≤ 140737488355328) := by
    have := HLE.out
    refine ⟨?_, ?_, ?_, ?_⟩ <;> (try simp only [maxLen]) <;> omega
  have HMT : Hid (meetO a b = a ++ outO a b) := rfl
  unfold retMeet meetB
  clear ha hb hr hE hab
  generalize beginsB a (meetO a b) = r1 at *
  generalize beginsB b (meetO a b) = r2 at *
  generalize hml : meetO a b = m at *
  generalize outO a b = r at *
  have HRS : Hid ((r1 && r2) = true ∨ (r1 && r2) = false) := by show _ ∨ _; cases r1 <;> cases r2 <;> simp
  obtain ⟨rb, hrb⟩ : ∃ rb, rb = (r1 && r2) := ⟨_, rfl⟩
  obtain ⟨ml, hmv⟩ : ∃ ml, ml = if (r1 && r2) = true then m else [] := ⟨_, rfl⟩
  rw [← hmv, ← hrb]
  have HRB := Lib.hid hrb
  have HMV := Lib.hid hmv
  clear hrb hmv HRS
  go_enter Try.func9, Try.ntmps9
  go_wp2_with (first | (at_builtin; refine wpList_app _ rfl (.const (.slice none 0 0)) (.tmp 7) 22 22 rfl elO (Own.nil _ _ _) rfl HS0.out rfl HBX.out.1 HBX.out.2.1 ?_; intro v1 w1 ho1 hf1 hn1; rw [Nat.zero_add, List.nil_append] at ho1; have HO1 := Lib.hid ho1; have HF1 := Lib.hid (fr_at_none hf1); have HN1 : Hid (Newer w.heap.size none v1.ownBlock) := Newer.of hn1; clear ho1 hf1 hn1) | fail)
  (with_reducible refine (H2.out _ HF1.out).mono ?_)
  rintro e w2 ⟨A2, c2, rfl, ⟨cells2, hr2, hE2⟩, h1, h2, hf2⟩
  have HE2 := Lib.hid hE2
  have HO2 := Lib.hid (HO1.out.fr hf2 (fun _ _ h => h))
  have HF2 := Lib.hid (HF1.out.trans hf2)
  have HS2 : Hid (Src Try.prog w2 10 22 (.slice A2 r.length c2) r.length cells2) := Src.of_rd hr2 (each_all (P := fun y => y.oneCell' = true) (by omega) hE2 odr_oneX) Try.underlying22
  clear hE2 hr2 h1 h2 hf2
  go_wp2_with (first | (at_builtin; refine wpList_app _ rfl (.tmp 8) (.tmp 11) 22 22 rfl elO HO2.out rfl HS2.out rfl HBX.out.2.2.1 HBX.out.2.2.2 ?_; intro v3 w3 ho3 hf3 hn3; obtain ⟨A3, c3, rfl, -, -⟩ := ho3.form; have HF3 := Lib.hid (fr_no HF2.out HN1.out hf3); have HL3 : Hid (Ls w3 Tr A3 c3 m) := HLS.out _ _ _ HF3.out ⟨cells ++ cells2, by rw [HML.out]; exact ho3, by rw [HMT.out]; exact each_append HEA.out HE2.out⟩; clear ho3 hf3 hn3) | fail)
  (with_reducible refine (H4.out _ _ _ HF3.out HL3.out).mono ?_)
  rintro e w4 ⟨rfl, hf4⟩
  cases r1
  · have HRT : Hid (∀ W, Fr No w W → LsRet2 w ml rb (.returned (.tuple #[.slice none 0 0, .bool false])) W) := fun W hW => by
      have e1 := HRB.out
      have e2 := HMV.out
      rw [Bool.false_and] at e1 e2
      rw [if_neg (by decide)] at e2
      rw [e1, e2]
      exact ⟨none, 0, rfl, Ls.nil _ _, hW⟩
    clear HRB HMV
    go_wp2
    go_ret2
    exact HRT.out _ (HF3.out.trans hf4)
  · have HF4 := Lib.hid (HF3.out.trans hf4)
    have HL4 := Lib.hid (HL3.out.no hf4)
    clear hf4
    go_wp2_with fail
    (with_reducible refine (H5.out _ _ _ HF4.out HL4.out).mono ?_)
    rintro e w5 ⟨rfl, hf5⟩
    cases r2
    · have HRT : Hid (∀ W, Fr No w W → LsRet2 w ml rb (.returned (.tuple #[.slice none 0 0, .bool false])) W) := fun W hW => by
        have e1 := HRB.out
        have e2 := HMV.out
        rw [Bool.true_and] at e1 e2
        rw [if_neg (by decide)] at e2
        rw [e1, e2]
        exact ⟨none, 0, rfl, Ls.nil _ _, hW⟩
      clear HRB HMV
      go_wp2
      go_ret2
      exact HRT.out _ (HF4.out.trans hf5)
    · have HRT : Hid (LsRet2 w ml rb (.returned (.tuple #[.slice A3 (a.length + r.length) c3, .bool true])) w5) := by
        have e1 := HRB.out
        have e2 := HMV.out
        rw [Bool.true_and] at e1 e2
        rw [if_pos rfl] at e2
        rw [e1, e2]
        exact ⟨A3, c3, by rw [HML.out], HL4.out.no hf5, HF4.out.trans hf5⟩
      clear hf5 HRB HMV
      go_wp2
      go_ret2
      exact HRT.out
end Go.Proofs.Ytnphncemghfkbaa
