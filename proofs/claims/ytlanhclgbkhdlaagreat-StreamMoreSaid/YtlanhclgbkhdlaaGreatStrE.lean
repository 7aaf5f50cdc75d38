/- StreamMore: the walk. -/
import Derived.Test.YtlanhclgbkhdlaaGreatQ19
namespace Go.Proofs.YtlanhclgbkhdlaaGreat
open Go.RowKit Go.My Go.Maps
set_option linter.unusedSimpArgs false
set_option linter.unusedVariables false
attribute [local go_sem ↓] Go.wp_at_zero Go.wp_at_succ

theorem few8_few8 (o : Od) : o.few8.few8 = o.few8 := by
  unfold Od.few8
  simp [List.take_take]
theorem fewO_more (l0 : List Od) (o : Od) : fewO (fewO l0 50 ++ [o]) 51 = fewO l0 50 ++ [o.few8] := by
  have hl : (fewO l0 50).length ≤ 50 := by rw [fewO_length]; omega
  have e1 : (fewO l0 50 ++ [o]).take 51 = fewO l0 50 ++ [o] := List.take_of_length_le (by simp; omega)
  unfold fewO at e1 ⊢
  rw [e1, List.map_append, List.map_map]
  congr 1
  refine List.map_congr_left fun x _ => ?_
  exact few8_few8 x
theorem cs_one (o : Od) {w : World} {F : Nat → Prop} {v : Value} (h : LgS w F v o.legs) : ∀ y ∈ o.cs v, y.oneCell' = true := by
  obtain ⟨A, c, cells, rfl, _⟩ := h
  intro y hy
  unfold Od.cs at hy
  simp only [List.mem_cons, List.not_mem_nil, or_false] at hy
  rcases hy with rfl | rfl | rfl | rfl | rfl | rfl | rfl | rfl | rfl | rfl <;> rfl
theorem odr_ones {w : World} {cells : List Value} {l : List Od} (h : Each (OdR w) 10 cells l) : ∀ y ∈ cells, y.oneCell' = true := by
  intro y hy
  obtain ⟨i, hi, rfl⟩ := List.getElem_of_mem hy
  have hlen := h.1
  have hk : i / 10 < l.length := by omega
  have := h.2 (i / 10) l[i / 10] (List.getElem?_eq_getElem hk)
  obtain ⟨v, hcs, hok, hg, hL⟩ := this
  refine cs_one l[i / 10] hL _ ?_
  rw [← hcs]
  have e : cells[i] = ((cells.drop (i / 10 * 10)).take 10)[i % 10]'(by simp; omega) := by
    rw [List.getElem_take, List.getElem_drop]
    congr 1
    omega
  rw [e]
  exact List.getElem_mem _
theorem nmL_dummy : True := trivial
def nmL : List (List UInt8) := [[97], [98], [99], [98, 97, 110, 107], [116, 105, 108, 108]]
theorem nmL_len (i : Nat) (h : i < nmL.length) : nmL[i].length ≤ maxLen := by
  have : ∀ x ∈ nmL, x.length ≤ maxLen := by decide
  exact this _ (List.getElem_mem h)
theorem app_last (l : List Od) (o : Od) (h : l.length < (l ++ [o]).length) : (l ++ [o])[l.length] = o := by simp
theorem foldR_last (l : List Od) (o : Od) (h : l.length < (foldR bk0 (l ++ [o])).length) : (foldR bk0 (l ++ [o]))[l.length] = doR (foldB bk0 l) o := by
  have e : foldR bk0 (l ++ [o]) = foldR bk0 l ++ [doR (foldB bk0 l) o] := by rw [foldR_append]; rfl
  have e2 : (foldR bk0 (l ++ [o]))[l.length]? = some (doR (foldB bk0 l) o) := by
    rw [e, List.getElem?_append_right (by rw [foldR_length]; exact Nat.le_refl _), foldR_length, Nat.sub_self]
    rfl
  rw [List.getElem?_eq_getElem h] at e2
  injection e2
def NkRel (wo : World) (T : List (List UInt8)) (nm : List UInt8) (bv kv : Value) (wr : World) : Prop := ∃ k : Nat, k ≤ T.length ∧ kv = .int .i64 k ∧ bv = .bool (decide (nm ∈ T.take k)) ∧ Fr No wo wr
def MoRel (w8 : World) (iv : Value) (wr : World) : Prop := ∃ i : Nat, i ≤ 5 ∧ iv = .int .i64 i ∧ Fr No w8 wr
set_option maxRecDepth 100000 in
set_option maxHeartbeats 2000000 in
theorem streamMore_walk (A : Option Addr) (c : Nat) (l0 : List Od) (o : Od) (u : Value) (w : World) (ra : OdsS w w (Lt w.heap.size) A l0) (ca : l0.length ≤ c) (ma : c ≤ maxLen) (ro : OdI w o u) :
    Calls Tryz.prog 6 #[.slice A l0.length c, o.val u] w fun e w' => e = .returned (.bool true) ∧ Below w.heap.size w w' := by
  have HLV := Lib.hid (fun W => lives12 W)
  have HFW : Hid (∀ W, Fr No w W → Calls Tryz.prog 8 #[.slice A l0.length c, .int .i64 50] W (FewRet w W (fewO l0 50))) := fun W hW => few10_any w W _ A c l0 50 (ra.fr hW (fun _ _ _ h => h)) ca ma (by omega)
  have HLG : Hid (∀ x ∈ fewO l0 50 ++ [o.few8], x.legs.length ≤ 100000) := fun x hx => by
    rw [← fewO_more l0 o] at hx
    exact fewO_legs x hx
  have hll : (fewO l0 50).length ≤ 50 := by rw [fewO_length]; omega
  have HMORE := Lib.hid (fewO_more l0 o)
  obtain ⟨hok, hog, hoL⟩ := ro
  obtain ⟨B, dd, rfl, hdd, hdm⟩ := hoL.form
  have HOD : Hid (OdR w (o.cs (.slice B o.legs.length dd)) o) := ⟨_, rfl, hok, hog, hoL⟩
  have hones := cs_one o hoL
  generalize hl : fewO l0 50 = l at *
  clear hl ra hok hog hoL
  unfold Od.val at *
  unfold Od.cs at *
  have hbo := Blk.new w 31 #[.int .i64 o.cl, .int .i64 o.sq, .int .i64 o.kd, .string o.acct, .string o.peer, .int .i64 o.sum, .slice B o.legs.length dd, .int .i64 o.per, .int .i64 o.hold, .string o.note]
  have HO1 : Hid (Fr No w (w.alloc (.cells #[.int .i64 o.cl, .int .i64 o.sq, .int .i64 o.kd, .string o.acct, .string o.peer, .int .i64 o.sum, .slice B o.legs.length dd, .int .i64 o.per, .int .i64 o.hold, .string o.note] 31))) := (Fr.refl _ _).alloc _
  have HBO := Lib.hid hbo
  clear hbo
  go_enter Tryz.func6, Tryz.ntmps6
  go_wp2_with fail
  refine (HLV.out _).mono ?_
  rintro e w1 ⟨rfl, hf1⟩
  have HF1 : Hid (Fr No w w1) := HO1.out.trans hf1
  have HB1 := Lib.hid (HBO.out.fr hf1 (fun h => h))
  clear hf1 HLV HO1 HBO
  go_wp2_with fail
  (with_reducible refine (HFW.out _ HF1.out).mono ?_)
  rintro e w2 ⟨A2, c2, rfl, ho2, hc2, hm2, hf2⟩
  have HF2 : Hid (Fr No w w2) := HF1.out.trans hf2
  have HO2 : Hid (OdsS w w2 (fun k => w.heap.size ≤ k) A2 l) := ho2.more fun k hk => by
    have h1 := HF1.out.size
    have hk : w1.heap.size ≤ k := hk
    show w.heap.size ≤ k
    omega
  have HB2 := Lib.hid (HB1.out.fr hf2 (fun h => h))
  clear ho2 hf2 HFW HB1 HF1
  obtain ⟨cells, hrd, hE⟩ := HO2.out
  have HSRC : Hid (∀ W, Fr No w2 W → Src Tryz.prog W 10 22 (.slice A2 l.length c2) l.length cells) := fun W hW => Src.of_rd (hrd.fr (by decide : 0 < 10) hW (fun _ _ _ h => h)) (odr_ones hE) Tryz.underlying22
  have HFE : Hid (∀ W A7 c7, Fr No w2 W → Own W 31 10 (.slice A7 (l.length + 1) c7) (l.length + 1) (cells ++ [.int .i64 o.cl, .int .i64 o.sq, .int .i64 o.kd, .string o.acct, .string o.peer, .int .i64 o.sum, .slice B o.legs.length dd, .int .i64 o.per, .int .i64 o.hold, .string o.note]) → Calls Tryz.prog 8 #[.slice A7 (l.length + 1) c7, .int .i64 51] W (FewRet w W (l ++ [o.few8]))) := fun W A7 c7 hW ho => by
    have hlen : (l ++ [o]).length = l.length + 1 := by simp
    obtain ⟨A8, c8, e8, h1, h2⟩ := ho.form
    injection e8 with e8 e9 e10
    subst e8 e10
    have hods : OdsS w W (fun k => (Value.slice A7 (l.length + 1) c7).ownBlock = some k) A7 (l ++ [o]) := ⟨_, by rw [hlen]; exact ho.rd, Each.snocO hE rfl HOD.out⟩
    have h := few10_any w W _ A7 c7 (l ++ [o]) 51 hods (by rw [hlen]; exact h1) h2 (by omega)
    rw [HMORE.out, hlen] at h
    exact h
  have HX : Hid (∀ W, Fr No w2 W → Fr No w2 W ∧ W.cell? ⟨w.heap.size, 0, none⟩ = some (.int .i64 o.cl) ∧ W.cell? ⟨w.heap.size, 1, none⟩ = some (.int .i64 o.sq) ∧ W.cell? ⟨w.heap.size, 2, none⟩ = some (.int .i64 o.kd) ∧ W.cell? ⟨w.heap.size, 3, none⟩ = some (.string o.acct) ∧ W.cell? ⟨w.heap.size, 4, none⟩ = some (.string o.peer) ∧ W.cell? ⟨w.heap.size, 5, none⟩ = some (.int .i64 o.sum) ∧ W.cell? ⟨w.heap.size, 6, none⟩ = some (.slice B o.legs.length dd) ∧ W.cell? ⟨w.heap.size, 7, none⟩ = some (.int .i64 o.per) ∧ W.cell? ⟨w.heap.size, 8, none⟩ = some (.int .i64 o.hold) ∧ W.cell? ⟨w.heap.size, 9, none⟩ = some (.string o.note)) := fun W hW => by
    have h := HB2.out.fr hW (fun h => h)
    exact ⟨hW, h.cell 0, h.cell 1, h.cell 2, h.cell 3, h.cell 4, h.cell 5, h.cell 6, h.cell 7, h.cell 8, h.cell 9⟩
  clear hrd hE HOD HMORE HB2
  generalize HO8 : o.few8 = o8 at *
  clear HO8
  generalize o.legs.length = Ln at *
  generalize o.cl = cl at *
  generalize o.sq = sq at *
  generalize o.kd = kd at *
  generalize o.acct = acct at *
  generalize o.peer = peer at *
  generalize o.sum = sum at *
  generalize o.per = per at *
  generalize o.hold = hold at *
  generalize o.note = note at *
  have hk0 : Fr No w2 w2.drew := (Fr.refl _ w2).drew
  go_upto_region 4 with (fail)
  go_region_held3 (fun W => Fr No w2 W ∧ W.cell? ⟨w.heap.size, 0, none⟩ = some (.int .i64 cl) ∧ W.cell? ⟨w.heap.size, 1, none⟩ = some (.int .i64 sq) ∧ W.cell? ⟨w.heap.size, 2, none⟩ = some (.int .i64 kd) ∧ W.cell? ⟨w.heap.size, 3, none⟩ = some (.string acct) ∧ W.cell? ⟨w.heap.size, 4, none⟩ = some (.string peer) ∧ W.cell? ⟨w.heap.size, 5, none⟩ = some (.int .i64 sum) ∧ W.cell? ⟨w.heap.size, 6, none⟩ = some (.slice B Ln dd) ∧ W.cell? ⟨w.heap.size, 7, none⟩ = some (.int .i64 per) ∧ W.cell? ⟨w.heap.size, 8, none⟩ = some (.int .i64 hold) ∧ W.cell? ⟨w.heap.size, 9, none⟩ = some (.string note))
    (first
      | (with_reducible refine HX.out _ ?_; with_reducible assumption)
      | (with_reducible refine HX.out _ (Fr.drew (Fr.alloc ?_ _)); with_reducible first | assumption | exact Fr.refl _ w2)
      | (with_reducible refine HX.out _ (Fr.alloc ?_ _); with_reducible first | assumption | exact Fr.refl _ w2)
      | (refine HX.out _ ?_; assumption))
    (first
      | (refine step_app _ rfl (.const (.slice none 0 0)) (.tmp 20) 22 22 rfl elO (Own.nil _ _ _) rfl (HSRC.out _ (by first | assumption | exact ((Fr.refl _ _).alloc _).drew)) rfl (by simp only [maxLen]; omega) (by omega) ?_; intro v6 w6 ho6 hf6 hn6; rw [Nat.zero_add, List.nil_append] at ho6; have hq6 : Fr No w2 w6 := Fr.trans (by first | assumption | exact ((Fr.refl _ _).alloc _).drew) (fr_at_none hf6); have hB6 := hf6.block w2.heap.size; have hw6 : Newer w2.heap.size none v6.ownBlock := Newer.trans (.inl rfl) (Newer.of hn6) (by first | exact Nat.le_refl _ | (show w2.heap.size ≤ (w2.alloc _).heap.size; rw [World.size_alloc]; exact Nat.le_succ _)))
      | (refine step_app _ rfl (.tmp 21) (.tmp 23) 22 22 rfl elO ho6 rfl (Src.of_new (cs := #[.int .i64 cl, .int .i64 sq, .int .i64 kd, .string acct, .string peer, .int .i64 sum, .slice B Ln dd, .int .i64 per, .int .i64 hold, .string note]) (t := 31) w2.heap.size (by rw [hB6 (by show _ < (w2.alloc _).heap.size; rw [World.size_alloc]; exact Nat.lt_succ_self _) (fun h => by cases h)]; exact heap_alloc_new w2 _) Tryz.underlying22 rfl (by simp [Value.oneCell'])) rfl (by simp only [maxLen]; omega) (by omega) ?_; intro v7 w7 ho7 hf7 hn7; obtain ⟨A7, c7, rfl, -, -⟩ := ho7.form; have hq7 : Fr No w2 w7 := fr_no hq6 hw6 hf7)
      | (refine step_app _ rfl (.tmp 21) (.tmp 23) 22 22 rfl elO (ho6.alloc (.cells #[.int .i64 cl, .int .i64 sq, .int .i64 kd, .string acct, .string peer, .int .i64 sum, .slice B Ln dd, .int .i64 per, .int .i64 hold, .string note] 31)) rfl (Src.of_new (cs := #[.int .i64 cl, .int .i64 sq, .int .i64 kd, .string acct, .string peer, .int .i64 sum, .slice B Ln dd, .int .i64 per, .int .i64 hold, .string note]) (t := 31) w6.heap.size (heap_alloc_new _ _) Tryz.underlying22 rfl (by simp [Value.oneCell'])) rfl (by simp only [maxLen]; omega) (by omega) ?_; intro v7 w7 ho7 hf7 hn7; obtain ⟨A7, c7, rfl, -, -⟩ := ho7.form; have hq7 : Fr No w2 w7 := fr_no (hq6.alloc _) hw6 hf7)
      | (go_at_call 8; (with_reducible refine (HFE.out _ _ _ hq7 ho7).mono ?_); rintro e w8 ⟨A8, c8, rfl, ho8, hc8, hm8, hf8⟩; have hq8 : Fr No w2 w8 := hq7.trans hf8; have HF28 : Hid (Fr No w2 w8) := hq8; have HOD8 : Hid (OdsS w w8 (fun k => w.heap.size ≤ k) A8 (l ++ [o8])) := OdsS.more ho8 (fun k hk => Nat.le_trans (Nat.le_trans HF2.out.size hq7.size) hk)))
  all_goals
    have HF8 : Hid (Fr No w w8) := HF2.out.trans hq8
    clear ho6 hf6 hn6 hB6 hw6 hq6 ho7 hf7 hn7 hq7 ho8 hf8 hq8 hk0
    have hln : (l ++ [o8]).length = l.length + 1 := by simp
    have HFO : Hid (Calls Tryz.prog 22 #[.slice A8 (l.length + 1) c8] w8 fun e w' => ∃ A9 c9 q ad, e = .returned (.tuple #[.slice (some ad) (l.length + 1) c9, .pointer (some ⟨q, 0, none⟩)]) ∧ w'.cell? (ad.add (l.length * 4)) = some (.int .i64 (doR (foldB bk0 l) o8).err) ∧ Fr No w8 w' ∧ A9 = some ad) := by
      have h := fold_any w w8 _ A8 c8 (l ++ [o8]) HOD8.out HF8.out.belowNo (by rw [hln]; omega)
      rw [hln] at h
      refine h.mono ?_
      rintro e w' ⟨A9, c9, q, rfl, hr, _, hf, _⟩
      rw [hln] at hr ⊢
      have hfl : (foldR bk0 (l ++ [o8])).length = l.length + 1 := by rw [foldR_length, hln]
      rw [← hfl] at hr
      obtain ⟨ad, rfl, _, h0, _⟩ := rp_at hr l.length (by rw [hfl]; omega)
      rw [foldR_last] at h0
      exact ⟨_, c9, q.p, ad, rfl, h0, hf, rfl⟩
    obtain ⟨ad8, v8, hA8, _, hok8, hog8, hL8, q0, q1, q2, q3, q4, q5, q6, q7, q8, q9⟩ := HOD8.out.at_ l.length (by rw [hln]; omega)
    subst hA8
    rw [app_last] at hok8 hog8 hL8 q0 q1 q2 q3 q4 q5 q7 q8 q9
    obtain ⟨B8, d8, rfl, -, -⟩ := hL8.form
    have HTC : Hid (∀ W, Fr No w8 W → Calls Tryz.prog 25 #[.agg #[.int .i64 o8.cl, .int .i64 o8.sq, .int .i64 o8.kd, .string o8.acct, .string o8.peer, .int .i64 o8.sum, .slice B8 o8.legs.length d8, .int .i64 o8.per, .int .i64 o8.hold, .string o8.note]] W (RetOwn W 9 1 none (touchL o8).length (ts (touchL o8)))) := fun W hW => touches_any _ o8 _ W ((hL8.below HF8.out.belowNo).no hW) (HLG.out o8 (by simp))
    have HTL : Hid ((touchL o8).length ≤ 1000000) := by
      have h1 : (touchL o8).length ≤ 2 + o8.legs.length := by
        unfold touchL
        refine Nat.le_trans (upOf_length _) ?_
        unfold namesO
        refine Nat.le_trans (List.length_filter_le _ _) ?_
        rw [allN_length o8 _ (Nat.le_refl _)]
        exact Nat.le_refl _
      have h2 := HLG.out o8 (by simp)
      show _ ≤ _
      omega
    have HC8 : Hid (∀ W, Fr No w8 W → _) := fun W hW => And.intro (hW.cell_some q0 (fun h => h)) (And.intro (hW.cell_some q1 (fun h => h)) (And.intro (hW.cell_some q2 (fun h => h)) (And.intro (hW.cell_some q3 (fun h => h)) (And.intro (hW.cell_some q4 (fun h => h)) (And.intro (hW.cell_some q5 (fun h => h)) (And.intro (hW.cell_some q6 (fun h => h)) (And.intro (hW.cell_some q7 (fun h => h)) (And.intro (hW.cell_some q8 (fun h => h)) (hW.cell_some q9 (fun h => h))))))))))
    have HEV : Hid (∀ (s : ByteArray) W, s.size ≤ maxLen → Fr No w8 W → Calls Tryz.prog 13 #[.slice (some ad8) (l.length + 1) c8, .string s] W (RetOwn W 65 5 none (evsL bk0 (l ++ [o8]) s.data.toList).length (evs (evsL bk0 (l ++ [o8]) s.data.toList)))) := fun s W hs hW => by
      have h := sevents_any w W _ (some ad8) c8 (l ++ [o8]) s (HOD8.out.fr hW (fun _ _ _ h => h)) (HF8.out.trans hW).belowNo (by rw [hln]; omega) HLG.out hs
      rw [hln] at h
      exact h
    have HEX : Hid (∀ (s : ByteArray) W, s.size ≤ maxLen → Fr No w8 W → Calls Tryz.prog 13 #[.slice A2 l.length c2, .string s] W (RetOwn W 65 5 none (evsL bk0 l s.data.toList).length (evs (evsL bk0 l s.data.toList)))) := fun s W hs hW =>
      sevents_any w W _ A2 c2 l s ((HO2.out.fr HF28.out (fun _ _ _ h => h)).fr hW (fun _ _ _ h => h)) (HF8.out.trans hW).belowNo (by omega) (fun x hx => HLG.out x (List.mem_append_left _ hx)) hs
    clear hok8 hog8 hL8 q0 q1 q2 q3 q4 q5 q6 q7 q8 q9 HOD8 HX HFE HSRC hones hln
    generalize hR : (doR (foldB bk0 l) o8).err = re at *
    go_wp2_with fail
    (with_reducible refine HFO.out.mono ?_)
    rintro e w9 ⟨A9, c9, q, ad9, rfl, hre, hf9, -⟩
    have HRE := Lib.hid hre
    have HF9 := Lib.hid hf9
    obtain ⟨q0, q1, q2, q3, q4, q5, q6, q7, q8, q9⟩ := HC8.out (w9.alloc (.cells #[.string ⟨#[97]⟩, .string ⟨#[98]⟩, .string ⟨#[99]⟩, .string ⟨#[98, 97, 110, 107]⟩, .string ⟨#[116, 105, 108, 108]⟩] 9)) (hf9.alloc _)
    clear hre hf9 HFO
    have hq := (HTC.out (w9.alloc (.cells #[.string ⟨#[97]⟩, .string ⟨#[98]⟩, .string ⟨#[99]⟩, .string ⟨#[98, 97, 110, 107]⟩, .string ⟨#[116, 105, 108, 108]⟩] 9)) (HF9.out.alloc _))
    have HQ := Lib.hid hq
    clear hq
    generalize o8.legs.length = Ln8 at *
    generalize o8.cl = cl8 at *
    generalize o8.sq = sq8 at *
    generalize o8.kd = kd8 at *
    generalize o8.acct = acct8 at *
    generalize o8.peer = peer8 at *
    generalize o8.sum = sum8 at *
    generalize o8.per = per8 at *
    generalize o8.hold = hold8 at *
    generalize o8.note = note8 at *
    go_wp2_with fail
    (with_reducible refine HQ.out.mono ?_)
    rintro e w10 ⟨v10, rfl, ho10, hf10', hn10⟩
    have hf10 := fr_at_none hf10'
    obtain ⟨A10, c10, rfl, -, -⟩ := ho10.form
    have hnb := (Blk.new w9 9 #[.string ⟨#[97]⟩, .string ⟨#[98]⟩, .string ⟨#[99]⟩, .string ⟨#[98, 97, 110, 107]⟩, .string ⟨#[116, 105, 108, 108]⟩]).fr hf10 (fun h => h)
    have HNM : Hid (Rd w10 (fun _ => True) 1 (some ⟨w9.heap.size, 0, none⟩) 5 (ts nmL)) := ⟨rfl, fun _ => ⟨_, rfl, trivial, fun j u hu => by
      rw [add_zero, hnb.cell j]
      rw [← hu]
      unfold nmL ts
      simp only [List.getElem?_toArray]
      rfl⟩⟩
    have HT10 := Lib.hid ho10
    have HF10 : Hid (Fr No w8 w10) := (HF9.out.alloc _).trans hf10
    have HRE10 : Hid (w10.cell? (ad9.add (l.length * 4)) = some (.int .i64 re)) := hf10.cell_some (((Fr.refl No w9).alloc _).cell_some HRE.out (fun h => h)) (fun h => h)
    clear ho10 hf10' hf10 hn10 hnb HQ HRE HF9 HC8 HTC q0 q1 q2 q3 q4 q5 q6 q7 q8 q9
    generalize hnad : (⟨w9.heap.size, 0, none⟩ : Addr) = nad at *
    clear hnad
    have HTT : Hid (touchL o8 = touchL o8) := rfl
    generalize hTT : touchL o8 = T at *
    have htl := HTL.out
    go_wp2
    go_loopw [10] (fun iv wr => MoRel w10 iv wr) (fun iv _ => 5 - (intOf iv).toNat)
    case atStart => exact ⟨0, by omega, rfl, Fr.refl _ _⟩
    case round =>
      obtain ⟨i, hi, rfl, hfr⟩ := hrel
      by_cases hlt : i < 5
      · obtain ⟨bd, u, hbd, _, hu, hbc⟩ := (HNM.out.fr (by decide : 0 < 1) hfr (fun _ _ _ h => h)).at_ hlt
        injection hbd with hbd
        subst hbd
        have hil : i < nmL.length := hlt
        rw [ts_get nmL i hil] at hu
        injection hu with hu
        subst hu
        have hnml : nmL[i].length ≤ maxLen := nmL_len i hil
        have hX := fun W (hW : Fr No wr W) => hW.cell_some hbc (fun h => h)
        generalize nmL[i] = nm at *
        have hun : encStr nm = .string ⟨nm.toArray⟩ := rfl
        rw [hun] at hbc hX
        have HXN := Lib.hid hX
        have HFR := Lib.hid hfr
        have hi62 : (i : Int) ≤ 5 := by omega
        clear hX hfr hun
        go_wp2
        generalize wr = wo at *
        go_loopw [11, 12] (fun bv kv wq => NkRel wo T nm bv kv wq) (fun _ kv _ => T.length - (intOf kv).toNat)
        case atStart => exact ⟨0, Nat.zero_le _, rfl, by simp, Fr.refl _ _⟩
        case round =>
          obtain ⟨k, hk, rfl, rfl, hfk⟩ := hrel
          have hbk := HXN.out wr hfk
          by_cases hlk : k < T.length
          · have htk : T.take (k + 1) = T.take k ++ [T[k]] := List.take_succ_eq_append_getElem hlk
            obtain ⟨td, tu, rfl, _, htu, htc⟩ := ((HT10.out.fr HFR.out (fun _ _ h => h)).fr hfk (fun _ _ h => h)).rd.at_ hlk
            rw [ts_get T k hlk] at htu
            injection htu with htu
            subst htu
            have hun2 : encStr T[k] = .string ⟨T[k].toArray⟩ := rfl
            rw [hun2] at htc
            have HTK : Hid (T.take (k + 1) = T.take k ++ [T[k]]) := htk
            have HFK := Lib.hid hfk
            clear htk hfk hun2
            by_cases hin : nm ∈ T.take k
            · have hd : decide (nm ∈ T.take k) = true := decide_eq_true hin
              have HD1 : Hid (decide (nm ∈ T.take (k + 1)) = true) := decide_eq_true (by rw [HTK.out]; exact List.mem_append_left _ hin)
              rw [hd]
              clear hin hd
              generalize T[k] = tk at *
              go_wp2
              go_upto_region 15 with (fail)
              go_quiet (fail)
              go_wp2
              go_roundw
              case rel => exact ⟨k + 1, by omega, by go_num, by rw [HD1.out], HFK.out.drewN _⟩
              case measure => simp [intOf]; omega
            · have hd : decide (nm ∈ T.take k) = false := decide_eq_false hin
              rw [hd]
              by_cases he : T[k] = nm
              · have HD1 : Hid (decide (nm ∈ T.take (k + 1)) = true) := decide_eq_true (by rw [HTK.out, he]; simp)
                rw [he] at htc
                clear hin hd
                generalize T[k] = tk at *
                go_wp2
                go_upto_region 15 with (fail)
                go_quiet (fail)
                go_wp2
                go_roundw
                case rel => exact ⟨k + 1, by omega, by go_num, by rw [HD1.out], HFK.out.drewN _⟩
                case measure => simp [intOf]; omega
              · have HD1 : Hid (decide (nm ∈ T.take (k + 1)) = false) := decide_eq_false (by rw [HTK.out]; intro h; rcases List.mem_append.1 h with h | h; exact hin h; exact he (List.mem_singleton.1 h).symm)
                have e3 : (T[k] == nm) = false := beq_eq_false_iff_ne.2 he
                have e4 : ((⟨T[k].toArray⟩ : ByteArray).toList == nm) = false := by rw [ByteArray.toList_eq]; exact e3
                clear hin hd he
                generalize T[k] = tk at *
                go_wp2
                go_upto_region 15 with (fail)
                go_quiet (fail)
                go_wp2
                go_roundw
                case rel => exact ⟨k + 1, by omega, by go_num, by rw [HD1.out], HFK.out.drewN _⟩
                case measure => simp [intOf]; omega
          · obtain rfl : k = T.length := by omega
            rw [List.take_length]
            obtain ⟨Lx, hLx⟩ : ∃ Lx, Lx = evsL bk0 l nm := ⟨_, rfl⟩
            obtain ⟨Ly, hLyE⟩ : ∃ Ly, Ly = evsL bk0 (l ++ [o8]) nm := ⟨_, rfl⟩
            have hLyn : Ly = Lx ++ newEv (foldB bk0 l) o8 nm := by rw [hLyE, hLx]; exact evsL_snoc _ _ _ _
            have hxl : Lx.length ≤ 60 := by
              have := evsL_len bk0 l nm
              rw [hLx]
              omega
            have HLy := Lib.hid hLyE
            have HLyx := Lib.hid hLyn
            have HFk : Hid (Fr No w10 wr) := HFR.out.trans hfk
            have HF8k : Hid (Fr No w8 wr) := HF10.out.trans HFk.out
            have HXX : Hid (∀ W, Fr No wr W → Fr No wr W ∧ W.cell? (nad.add i) = some (.string ⟨nm.toArray⟩)) := fun W hW => ⟨hW, HXN.out W (hfk.trans hW)⟩
            have HEX1 : Hid (∀ W, Fr No wr W → Calls Tryz.prog 13 #[.slice A2 l.length c2, .string ⟨nm.toArray⟩] W (RetOwn W 65 5 none Lx.length (evs Lx))) := fun W hW => by
              have h := HEX.out ⟨nm.toArray⟩ W hnml (HF8k.out.trans hW)
              have e : evsL bk0 l (⟨nm.toArray⟩ : ByteArray).data.toList = Lx := hLx.symm
              rw [e] at h
              exact h
            have HAS : Hid (∀ W F A c, Rd W F 5 A Lx.length (evs Lx) → Calls Tryz.prog 12 #[.slice A Lx.length c] W (RetOwn W 73 5 none Lx.length (evs Lx))) := fun W F A c h => as12_any F A c Lx W h (by omega)
            have HSM : Hid (∀ W F G A B c d, Rd W F 5 A Lx.length (evs Lx) → Rd W G 5 B Lx.length (evs Lx) → Calls Tryz.prog 11 #[.slice A Lx.length c, .slice B Lx.length d] W fun e w' => e = .returned (.bool true) ∧ Fr No W w') := fun W F G A B c d h1 h2 => same12_eq F G A B c d Lx W h1 h2 (by omega)
            have hre : wr.cell? (ad9.add (l.length * 4)) = some (.int .i64 re) := HFk.out.cell_some HRE10.out (fun h => h)
            clear hfk hLx hLyE hbk HXN
            by_cases hm : nm ∈ T
            · rw [decide_eq_true hm]
              by_cases hz : re = 0
              · have hLy : Ly.length = Lx.length + 1 := by
                  rw [hLyn]
                  obtain ⟨a, _, hx⟩ := newEv_some (b := foldB bk0 l) (o := o8) (nm := nm) ⟨by rw [hR]; exact hz, by rw [hTT]; exact hm⟩
                  rw [hx]
                  simp
                subst hz
                clear hm hLyn
                have HEV1 : Hid (∀ W, Fr No wr W → Calls Tryz.prog 13 #[.slice (some ad8) (l.length + 1) c8, .string ⟨nm.toArray⟩] W (RetOwn W 65 5 none (Lx.length + 1) (evs Ly))) := fun W hW => by
                  have h := HEV.out ⟨nm.toArray⟩ W hnml (HF8k.out.trans hW)
                  have e : evsL bk0 (l ++ [o8]) (⟨nm.toArray⟩ : ByteArray).data.toList = Ly := HLy.out.symm
                  rw [e, hLy] at h
                  exact h
                have HPRE : Hid (evs (Ly.take Lx.length) = evs Lx) := by show _ = _; rw [HLyx.out, List.take_left]
                have hbx : (Lx.length : Int) ≤ (Lx.length : Int) + 1 := by omega
                go_wp2
                go_upto_region 16 with (fail)
                have hk0 : Fr No wr wr.drew := (Fr.refl _ wr).drew
                go_region_held3 (fun W => Fr No wr W ∧ W.cell? (nad.add i) = some (.string ⟨nm.toArray⟩))
                  (first
                    | (with_reducible refine HXX.out _ ?_; with_reducible assumption)
                    | (refine HXX.out _ ?_; assumption))
                  (first
                    | (go_at_call 13; (with_reducible refine (HEX1.out _ hk0).mono ?_); rintro e q1 ⟨y1, rfl, ho1, hf1', hn1⟩; obtain ⟨Ax, cx, rfl, hcx, hmx⟩ := ho1.form; have hf1 := fr_at_none hf1'; have kq1 : Fr No wr q1 := hk0.trans hf1; clear hf1' hn1)
                    | (go_at_call 13; (with_reducible refine (HEV1.out _ kq1).mono ?_); rintro e q2 ⟨y2, rfl, ho2, hf2', hn2⟩; obtain ⟨Ay, cy, rfl, hcy, hmy⟩ := ho2.form; have hf2 := fr_at_none hf2'; have kq2 : Fr No wr q2 := kq1.trans hf2; have ho1' := ho1.fr hf2 (fun _ _ h => h); clear hf2' hn2))
                have hrx := ho1'.rd
                have hry := (ho2.rd.take (k := Lx.length) (by omega))
                rw [evs_take, HPRE.out] at hry
                have HRX := Lib.hid hrx
                have HRY := Lib.hid hry
                have HK2 := Lib.hid kq2
                have hre2 := kq2.cell_some hre (fun h => h)
                have hcy2 : (Lx.length : Int) ≤ (cy : Int) := by omega
                have hcy3 : (cy : Int) ≤ 9223372036854775807 := by unfold maxLen at hmy; omega
                clear ho1 ho1' ho2 hf1 hf2 hrx hry kq1 kq2 hk0 hre HEV1 HEX1 HXX
                go_wp2_with fail
                (with_reducible refine (HAS.out _ _ _ _ HRY.out).mono ?_)
                rintro e q3 ⟨y3, rfl, ho3, hf3', hn3⟩
                obtain ⟨Az, cz, rfl, -, -⟩ := ho3.form
                have HO3 := Lib.hid ho3
                have HF3 := Lib.hid (fr_at_none hf3')
                have HRX3 := Lib.hid (HRX.out.fr (by decide : 0 < 5) (fr_at_none hf3') (fun _ _ _ h => h))
                clear ho3 hf3' hn3 hre2
                go_wp2_with fail
                (with_reducible refine (HAS.out _ _ _ _ HRX3.out).mono ?_)
                rintro e q4 ⟨y4, rfl, ho4, hf4', hn4⟩
                obtain ⟨Aw, cw, rfl, -, -⟩ := ho4.form
                have HO4 := Lib.hid ho4
                have HO34 := Lib.hid (HO3.out.fr (fr_at_none hf4') (fun _ _ h => h))
                have HF4 : Hid (Fr No q2 q4) := HF3.out.trans (fr_at_none hf4')
                clear ho4 hf4' hn4
                go_wp2_with fail
                (with_reducible refine (HSM.out _ _ _ _ _ _ _ HO34.out.rd HO4.out.rd).mono ?_)
                rintro e q5 ⟨rfl, hf5⟩
                have HF5 : Hid (Fr No w10 q5) := ((HFk.out.trans HK2.out).trans HF4.out).trans hf5
                clear hf5
                go_wp2
                go_roundw
                case rel => exact ⟨i + 1, by omega, by go_num, HF5.out⟩
                case measure => simp [intOf]; omega
              · have hLy : Ly.length = Lx.length := by
                  rw [hLyn, (newEv_none (b := foldB bk0 l) (o := o8) (nm := nm) (fun h => hz (by rw [← hR]; exact h.1))).1]
                  simp
                have hz1 : (re == 0) = false := beq_eq_false_iff_ne.2 hz
                clear hm hLyn
                have HEV1 : Hid (∀ W, Fr No wr W → Calls Tryz.prog 13 #[.slice (some ad8) (l.length + 1) c8, .string ⟨nm.toArray⟩] W (RetOwn W 65 5 none (Lx.length) (evs Ly))) := fun W hW => by
                  have h := HEV.out ⟨nm.toArray⟩ W hnml (HF8k.out.trans hW)
                  have e : evsL bk0 (l ++ [o8]) (⟨nm.toArray⟩ : ByteArray).data.toList = Ly := HLy.out.symm
                  rw [e, hLy] at h
                  exact h
                have HPRE : Hid (evs (Ly.take Lx.length) = evs Lx) := by show _ = _; rw [HLyx.out, List.take_left]
                have hbx : (Lx.length : Int) ≤ (Lx.length : Int) := by omega
                go_wp2
                go_upto_region 16 with (fail)
                have hk0 : Fr No wr wr.drew := (Fr.refl _ wr).drew
                go_region_held3 (fun W => Fr No wr W ∧ W.cell? (nad.add i) = some (.string ⟨nm.toArray⟩))
                  (first
                    | (with_reducible refine HXX.out _ ?_; with_reducible assumption)
                    | (refine HXX.out _ ?_; assumption))
                  (first
                    | (go_at_call 13; (with_reducible refine (HEX1.out _ hk0).mono ?_); rintro e q1 ⟨y1, rfl, ho1, hf1', hn1⟩; obtain ⟨Ax, cx, rfl, hcx, hmx⟩ := ho1.form; have hf1 := fr_at_none hf1'; have kq1 : Fr No wr q1 := hk0.trans hf1; clear hf1' hn1)
                    | (go_at_call 13; (with_reducible refine (HEV1.out _ kq1).mono ?_); rintro e q2 ⟨y2, rfl, ho2, hf2', hn2⟩; obtain ⟨Ay, cy, rfl, hcy, hmy⟩ := ho2.form; have hf2 := fr_at_none hf2'; have kq2 : Fr No wr q2 := kq1.trans hf2; have ho1' := ho1.fr hf2 (fun _ _ h => h); clear hf2' hn2))
                have hrx := ho1'.rd
                have hry := (ho2.rd.take (k := Lx.length) (by omega))
                rw [evs_take, HPRE.out] at hry
                have HRX := Lib.hid hrx
                have HRY := Lib.hid hry
                have HK2 := Lib.hid kq2
                have hre2 := kq2.cell_some hre (fun h => h)
                have hcy2 : (Lx.length : Int) ≤ (cy : Int) := by omega
                have hcy3 : (cy : Int) ≤ 9223372036854775807 := by unfold maxLen at hmy; omega
                clear ho1 ho1' ho2 hf1 hf2 hrx hry kq1 kq2 hk0 hre HEV1 HEX1 HXX
                go_wp2_with fail
                (with_reducible refine (HAS.out _ _ _ _ HRY.out).mono ?_)
                rintro e q3 ⟨y3, rfl, ho3, hf3', hn3⟩
                obtain ⟨Az, cz, rfl, -, -⟩ := ho3.form
                have HO3 := Lib.hid ho3
                have HF3 := Lib.hid (fr_at_none hf3')
                have HRX3 := Lib.hid (HRX.out.fr (by decide : 0 < 5) (fr_at_none hf3') (fun _ _ _ h => h))
                clear ho3 hf3' hn3 hre2
                go_wp2_with fail
                (with_reducible refine (HAS.out _ _ _ _ HRX3.out).mono ?_)
                rintro e q4 ⟨y4, rfl, ho4, hf4', hn4⟩
                obtain ⟨Aw, cw, rfl, -, -⟩ := ho4.form
                have HO4 := Lib.hid ho4
                have HO34 := Lib.hid (HO3.out.fr (fr_at_none hf4') (fun _ _ h => h))
                have HF4 : Hid (Fr No q2 q4) := HF3.out.trans (fr_at_none hf4')
                clear ho4 hf4' hn4
                go_wp2_with fail
                (with_reducible refine (HSM.out _ _ _ _ _ _ _ HO34.out.rd HO4.out.rd).mono ?_)
                rintro e q5 ⟨rfl, hf5⟩
                have HF5 : Hid (Fr No w10 q5) := ((HFk.out.trans HK2.out).trans HF4.out).trans hf5
                clear hf5
                go_wp2
                go_roundw
                case rel => exact ⟨i + 1, by omega, by go_num, HF5.out⟩
                case measure => simp [intOf]; omega
            · rw [decide_eq_false hm]
              have hLy : Ly.length = Lx.length := by
                rw [hLyn, (newEv_none (b := foldB bk0 l) (o := o8) (nm := nm) (fun h => hm (by rw [← hTT]; exact h.2))).1]
                simp
              clear hm hLyn
              have HEV1 : Hid (∀ W, Fr No wr W → Calls Tryz.prog 13 #[.slice (some ad8) (l.length + 1) c8, .string ⟨nm.toArray⟩] W (RetOwn W 65 5 none (Lx.length) (evs Ly))) := fun W hW => by
                have h := HEV.out ⟨nm.toArray⟩ W hnml (HF8k.out.trans hW)
                have e : evsL bk0 (l ++ [o8]) (⟨nm.toArray⟩ : ByteArray).data.toList = Ly := HLy.out.symm
                rw [e, hLy] at h
                exact h
              have HPRE : Hid (evs (Ly.take Lx.length) = evs Lx) := by show _ = _; rw [HLyx.out, List.take_left]
              have hbx : (Lx.length : Int) ≤ (Lx.length : Int) := by omega
              go_wp2
              go_upto_region 16 with (fail)
              have hk0 : Fr No wr wr.drew := (Fr.refl _ wr).drew
              go_region_held3 (fun W => Fr No wr W ∧ W.cell? (nad.add i) = some (.string ⟨nm.toArray⟩))
                (first
                  | (with_reducible refine HXX.out _ ?_; with_reducible assumption)
                  | (refine HXX.out _ ?_; assumption))
                (first
                  | (go_at_call 13; (with_reducible refine (HEX1.out _ hk0).mono ?_); rintro e q1 ⟨y1, rfl, ho1, hf1', hn1⟩; obtain ⟨Ax, cx, rfl, hcx, hmx⟩ := ho1.form; have hf1 := fr_at_none hf1'; have kq1 : Fr No wr q1 := hk0.trans hf1; clear hf1' hn1)
                  | (go_at_call 13; (with_reducible refine (HEV1.out _ kq1).mono ?_); rintro e q2 ⟨y2, rfl, ho2, hf2', hn2⟩; obtain ⟨Ay, cy, rfl, hcy, hmy⟩ := ho2.form; have hf2 := fr_at_none hf2'; have kq2 : Fr No wr q2 := kq1.trans hf2; have ho1' := ho1.fr hf2 (fun _ _ h => h); clear hf2' hn2))
              have hrx := ho1'.rd
              have hry := (ho2.rd.take (k := Lx.length) (by omega))
              rw [evs_take, HPRE.out] at hry
              have HRX := Lib.hid hrx
              have HRY := Lib.hid hry
              have HK2 := Lib.hid kq2
              have hre2 := kq2.cell_some hre (fun h => h)
              have hcy2 : (Lx.length : Int) ≤ (cy : Int) := by omega
              have hcy3 : (cy : Int) ≤ 9223372036854775807 := by unfold maxLen at hmy; omega
              clear ho1 ho1' ho2 hf1 hf2 hrx hry kq1 kq2 hk0 hre HEV1 HEX1 HXX
              go_wp2_with fail
              (with_reducible refine (HAS.out _ _ _ _ HRY.out).mono ?_)
              rintro e q3 ⟨y3, rfl, ho3, hf3', hn3⟩
              obtain ⟨Az, cz, rfl, -, -⟩ := ho3.form
              have HO3 := Lib.hid ho3
              have HF3 := Lib.hid (fr_at_none hf3')
              have HRX3 := Lib.hid (HRX.out.fr (by decide : 0 < 5) (fr_at_none hf3') (fun _ _ _ h => h))
              clear ho3 hf3' hn3 hre2
              go_wp2_with fail
              (with_reducible refine (HAS.out _ _ _ _ HRX3.out).mono ?_)
              rintro e q4 ⟨y4, rfl, ho4, hf4', hn4⟩
              obtain ⟨Aw, cw, rfl, -, -⟩ := ho4.form
              have HO4 := Lib.hid ho4
              have HO34 := Lib.hid (HO3.out.fr (fr_at_none hf4') (fun _ _ h => h))
              have HF4 : Hid (Fr No q2 q4) := HF3.out.trans (fr_at_none hf4')
              clear ho4 hf4' hn4
              go_wp2_with fail
              (with_reducible refine (HSM.out _ _ _ _ _ _ _ HO34.out.rd HO4.out.rd).mono ?_)
              rintro e q5 ⟨rfl, hf5⟩
              have HF5 : Hid (Fr No w10 q5) := ((HFk.out.trans HK2.out).trans HF4.out).trans hf5
              clear hf5
              go_wp2
              go_roundw
              case rel => exact ⟨i + 1, by omega, by go_num, HF5.out⟩
              case measure => simp [intOf]; omega
      · have hi5 : i = 5 := by omega
        subst hi5
        go_wp2
        go_ret
        exact ⟨rfl, ((HF8.out.trans HF10.out).trans hfr).belowNo⟩
end Go.Proofs.YtlanhclgbkhdlaaGreat
