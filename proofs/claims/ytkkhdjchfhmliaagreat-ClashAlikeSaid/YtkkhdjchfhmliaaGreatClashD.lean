/- clash.begins. -/
import Derived.Test.YtkkhdjchfhmliaaGreatClashC
namespace Go.Proofs.YtkkhdjchfhmliaaGreat
open Go.RowKit Go.My Go.Maps Go.WideMaps
set_option linter.unusedSimpArgs false
set_option linter.unusedVariables false
attribute [local go_sem ↓] Go.wp_at_zero Go.wp_at_succ

/-- a row of the call's own that holds marked orders -/
def OwnM (B : Nat) (w : World) (v : Value) (l : List Od) : Prop := ∃ cells, Own w 70 11 v l.length cells ∧ Each (MkR w (New B w v.ownBlock)) 11 cells l
theorem MkR.to {w w' : World} {F G S : Nat → Prop} {cs : List Value} {x : Od} (h : MkR w F cs x) (hf : Fr S w w') (hn : ∀ k, F k → k < w.heap.size → ¬ S k) (hG : ∀ k, F k → G k) : MkR w' G cs x := by
  obtain ⟨A, n, c, C, e, h1, h2, h3, h4⟩ := h
  exact ⟨A, n, c, C, e, h1, h2, (h3.fr (by omega) hf hn).more hG, h4⟩
theorem OwnM.nil (B : Nat) (w : World) : OwnM B w (.slice none 0 0) [] := ⟨[], Own.nil _ _ _, ⟨rfl, fun i x hx => by simp at hx⟩⟩
theorem OwnM.form {B : Nat} {w : World} {v : Value} {l : List Od} (h : OwnM B w v l) : ∃ A c, v = .slice A l.length c ∧ l.length ≤ c ∧ c ≤ maxLen := by
  obtain ⟨cells, ho, _⟩ := h
  exact ho.form
theorem OwnM.no {B : Nat} {w w' : World} {v : Value} {l : List Od} (h : OwnM B w v l) (hf : Fr No w w') : OwnM B w' v l := by
  obtain ⟨cells, ho, hE⟩ := h
  exact ⟨cells, ho.fr hf (fun _ _ h => h), each_imp hE fun cs o h => h.to hf (fun _ _ _ h => h) fun k hk => ⟨hk.1, Nat.lt_of_lt_of_le hk.2.1 hf.size, hk.2.2⟩⟩
theorem OwnM.mks {B : Nat} {w : World} {A : Option Addr} {m c : Nat} {l : List Od} (h : OwnM B w (.slice A m c) l) : MksS w w (fun k => (Value.slice A m c).ownBlock = some k) (New B w (Value.slice A m c).ownBlock) A l := by
  obtain ⟨cells, ho, hE⟩ := h
  exact ⟨cells, ho.rd, hE⟩
theorem eachM_put {B : Nat} {w wa w1 w2 w3 : World} {g g1 : Option Nat} {cells cs : List Value} {l : List Od} {o : Od} (hB : B ≤ wa.heap.size) (hE : Each (MkR w (New B w g)) 11 cells l) (hg : ∀ k, g = some k → k < w.heap.size)
    (h1 : Fr No w wa) (h2 : Fr No wa w1) (hL : MkR w1 (New wa.heap.size w1 none) cs o) (h3 : Fr No w1 w2) (h4 : Fr (AtO g) w2 w3) (hn : g1 = g ∨ g1 = some w2.heap.size) :
    Each (MkR w3 (New B w3 g1)) 11 (cells ++ cs) (l ++ [o]) := by
  have s1 := h1.size
  have s2 := h2.size
  have s3 := h3.size
  have s4 := h4.size
  have e1 : ∀ k, New B w g k → New B w3 g1 k := fun k hk => by
    obtain ⟨k1, k2, k3⟩ := hk
    refine ⟨k1, by omega, fun e => ?_⟩
    rcases hn with rfl | rfl
    · exact k3 e
    · simp only [Option.some.injEq] at e
      omega
  have e2 : ∀ k, New wa.heap.size w1 none k → New B w3 g1 k := fun k hk => by
    obtain ⟨k1, k2, k3⟩ := hk
    refine ⟨by omega, by omega, fun e => ?_⟩
    rcases hn with rfl | rfl
    · have := hg k e
      omega
    · simp only [Option.some.injEq] at e
      omega
  have hE1 : Each (MkR w3 (New B w3 g1)) 11 cells l := each_imp hE fun cs o h => (h.to ((h1.trans h2).trans h3) (fun _ _ _ h => h) (fun _ h => h)).to h4 (fun k hk _ e => hk.2.2 e) e1
  have hlen : cs.length = 11 := by
    obtain ⟨A, n, c, C, e, rfl, _⟩ := hL
    rfl
  refine each_snoc hE1 (by omega) hlen ((hL.to h3 (fun _ _ _ h => h) (fun _ h => h)).to h4 (fun k hk _ e => ?_) e2)
  have := hg k e
  have := hk.1
  omega
theorem left_eq (a : List Od) (o : Od) : leftB (idsO a) o = !decide (o.id ∈ idsO a) := by unfold leftB; rw [posF_isSome]
def BgRel (w : World) (a b : List Od) (lv iv : Value) (wr : World) : Prop := ∃ k : Nat, k ≤ b.length ∧ iv = .int .i64 k ∧ OwnM w.heap.size wr lv (b.take k) ∧ Fr No w wr ∧ Newer w.heap.size none lv.ownBlock ∧ ∀ j o, j < k → b[j]? = some o → okAt a (b.take j) o = true
set_option maxRecDepth 100000 in
set_option maxHeartbeats 4000000 in
theorem begins_any (w : World) (F G : Nat → Prop) (A B : Option Addr) (c d : Nat) (a b : List Od) (ha : OdsS w w F A a) (hb : OdsS w w G B b) (hn : a.length ≤ 1000000) (hm : b.length ≤ 1000000) (hs : ∀ o ∈ b, o.legs.length ≤ 100000) :
    Calls Tryz.prog 29 #[.slice A a.length c, .slice B b.length d] w fun e w' => e = .returned (.bool (begB a b)) ∧ Fr No w w' := by
  have HP := Lib.hid (positions_any w w F A c a ha hn)
  have HW : Hid (∀ W, Fr No w W → _) := fun W hW => without_any w W F A c a (ha.fr hW (fun _ _ _ h => h)) hn
  have HB := Lib.hid hb
  have HS := Lib.hid hs
  have hen : ∀ args W, (callFunc 62 args).run Tryz.prog W = .ok (.enter 62 args) W := enters_of Tryz.func62 (by kernel_rfl) rfl
  clear ha hb hs
  go_enter Tryz.func29, Tryz.ntmps29
  go_wp2_with fail
  (with_reducible refine HP.out.mono ?_)
  rintro e w1 ⟨ma, rfl, hm1, hf1, -⟩
  have HM1 := Lib.hid hm1
  have HF1 := Lib.hid hf1
  clear hm1 hf1 HP
  go_wp2_with fail
  (with_reducible refine (HW.out _ HF1.out).mono ?_)
  rintro e w2 ⟨gw, mw, rfl, hw2, hf2⟩
  have hba := (Blk.new w2 82 #[.map (some ma)]).alloc (.cells #[woV gw] 75)
  have hbl := Blk.new (w2.alloc (.cells #[.map (some ma)] 82)) 75 #[woV gw]
  rw [World.size_alloc] at hbl
  have hfa : Fr No w2 ((w2.alloc (.cells #[.map (some ma)] 82)).alloc (.cells #[woV gw] 75)) := ((Fr.refl _ _).alloc _).alloc _
  have HWO : Hid (WoS ((w2.alloc (.cells #[.map (some ma)] 82)).alloc (.cells #[woV gw] 75)) gw mw (idsO a)) := hw2.no hfa
  have HMA : Hid (IMp ((w2.alloc (.cells #[.map (some ma)] 82)).alloc (.cells #[woV gw] 75)) ma (idsO a)) := HM1.out.fr (hf2.trans hfa) (fun h => h)
  have HF3 : Hid (Fr No w ((w2.alloc (.cells #[.map (some ma)] 82)).alloc (.cells #[woV gw] 75))) := (HF1.out.trans hf2).trans hfa
  have HBA : Hid (((w2.alloc (.cells #[.map (some ma)] 82)).alloc (.cells #[woV gw] 75)).cell? ⟨w2.heap.size, 0, none⟩ = some (.map (some ma))) := hba.cell 0
  have HBL : Hid (((w2.alloc (.cells #[.map (some ma)] 82)).alloc (.cells #[woV gw] 75)).cell? ⟨w2.heap.size + 1, 0, none⟩ = some (woV gw)) := hbl.cell 0
  clear hba hbl hfa hw2 hf2 HM1 HW
  go_upto_region 2 with (fail)
  generalize ((w2.alloc (.cells #[.map (some ma)] 82)).alloc (.cells #[woV gw] 75)) = w3 at *
  generalize w2.heap.size = ga at *
  generalize hgl : ga + 1 = gl at *
  clear hgl
  go_wp2
  go_loopw [7, 18] (fun lv iv wr => BgRel w3 a b lv iv wr) (fun _ iv _ => b.length - (intOf iv).toNat)
  case atStart => exact ⟨0, Nat.zero_le _, rfl, OwnM.nil _ _, Fr.refl _ _, .inl rfl, fun j o h => by omega⟩
  case round =>
    obtain ⟨k, hk, rfl, hown, hfr, hnew, hall⟩ := hrel
    have hk62 : (k : Int) ≤ 1000000 := by omega
    have hfw : Fr No w wr := HF3.out.trans hfr
    by_cases hlt : k < b.length
    · obtain ⟨ad, v, rfl, _, hok, hg, hL, q0, q1, q2, q3, q4, q5, q6, q7, q8, q9⟩ := (HB.out.fr hfw (fun _ _ _ h => h)).at_ k hlt
      obtain ⟨vB, vd, rfl, hd1, hd2⟩ := hL.form
      have HTK : Hid (b.take (k + 1) = b.take k ++ [b[k]]) := List.take_succ_eq_append_getElem hlt
      have HLK : Hid ((b.take k).length = k) := by show _ = _; rw [List.length_take]; omega
      have HLT : Hid (k + 1 ≤ b.length) := hlt
      have HFR := Lib.hid hfr
      have HFW := Lib.hid hfw
      have HNW := Lib.hid hnew
      have HOWN := Lib.hid hown
      have HST : Hid (okAt a (b.take k) b[k] = true → ∀ j o, j < k + 1 → b[j]? = some o → okAt a (b.take j) o = true) := fun h j o hj ho => by
        rcases Nat.lt_or_ge j k with h1 | h1
        · exact hall j o h1 ho
        · obtain rfl : j = k := by omega
          rw [List.getElem?_eq_getElem hlt] at ho
          injection ho with ho
          rw [← ho]
          exact h
      have HBD : Hid (okAt a (b.take k) b[k] = false → begB a b = false) := fun h => by
        unfold begB
        rw [List.all_eq_false]
        refine ⟨k, List.mem_range.2 hlt, ?_⟩
        rw [List.getElem?_eq_getElem hlt]
        show ¬ okAt a (b.take k) b[k] = true
        rw [h]
        decide
      have HLF : Hid (∀ W, Fr No w3 W → Calls Tryz.prog 62 #[b[k].val (.slice vB b[k].legs.length vd), .pointer (some ⟨gw, 0, none⟩)] W fun e w' => e = .returned (.bool (leftB (idsO a) b[k])) ∧ Fr No W w') := fun W hW => left_any b[k] _ gw mw (idsO a) W (HWO.out.no hW) ⟨hok.1, hok.2.1⟩ ⟨_, _, _, rfl⟩
      have HMK : Hid (∀ W, Fr No w W → Calls Tryz.prog 30 #[b[k].val (.slice vB b[k].legs.length vd)] W (MarkRet W (mkd b[k] (.slice vB b[k].legs.length vd)) (touchL b[k]))) := fun W hW => mark_any _ b[k] _ W (hL.no hW) (HS.out _ (List.getElem_mem hlt))
      have HSM : Hid ((touchL b[k]).length ≤ 1000000) := by
        show _ ≤ _
        have := touch_len b[k]
        have := HS.out _ (List.getElem_mem hlt)
        omega
      have HMS : Hid (∀ (W : World) (gm go_ : Nat) (C : Option Addr) (e_ : Nat), Fr No w3 W → (∃ t, Blk W gm t (b[k].cs (.slice vB b[k].legs.length vd) ++ [Value.slice C (touchL b[k]).length e_]).toArray) → (∃ t, Blk W go_ t (b[k].cs (.slice vB b[k].legs.length vd)).toArray) → Rd W (fun _ => True) 1 C (touchL b[k]).length (ts (touchL b[k])) → MsS W gm gl ga go_ gw mw ma (idsO a) b[k] (.slice vB b[k].legs.length vd) C e_) := fun W gm go_ C e_ hW h1 h2 h3 => {
        mkk := h1
        lf := hW.cell_some HBL.out (fun h => h)
        wo := HWO.out.no hW
        at_ := hW.cell_some HBA.out (fun h => h)
        mp := HMA.out.fr hW (fun h => h)
        od := h2
        tc := h3
        vf := ⟨_, _, _, rfl⟩
        ok := ⟨hok.1, hok.2.1⟩
        sm := HSM.out }
      have HEP : Hid (∀ (wa w1 w2 w4 : World) (g g1 : Option Nat) (cells : List Value) (C : Option Addr) (e_ : Nat), Each (MkR wr (New w3.heap.size wr g)) 11 cells (b.take k) → (∀ k, g = some k → k < wr.heap.size) → w3.heap.size ≤ wa.heap.size → Fr No wr wa → Fr No wa w1 → Rd w1 (New wa.heap.size w1 none) 1 C (touchL b[k]).length (ts (touchL b[k])) → Fr No w1 w2 → Fr (AtO g) w2 w4 → (g1 = g ∨ g1 = some w2.heap.size) → Each (MkR w4 (New w3.heap.size w4 g1)) 11 (cells ++ (b[k].cs (.slice vB b[k].legs.length vd) ++ [Value.slice C (touchL b[k]).length e_])) (b.take k ++ [b[k]])) := fun wa w1 w2 w4 g g1 cells C e_ h0 hlt hB h1 h2 h3 h4 h5 h6 => eachM_put hB h0 hlt h1 h2 ⟨_, _, _, C, e_, rfl, ⟨hok.1, hok.2.1⟩, h3, HSM.out⟩ h4 h5 h6
      have HOK : Hid (okAt a (b.take k) b[k] = !(!(leftB (idsO a) b[k]) && (b.take k).any (badI (idsO a) b[k]))) := by
        show _ = _
        unfold okAt
        rw [left_eq, Bool.not_not]
        congr 3
        funext x
        rw [badI_eq]
      unfold MarkRet mkd Od.val Od.cs at HMK
      unfold Od.val Od.cs at HLF
      unfold Od.cs at HMS HEP
      simp only [List.cons_append, List.nil_append] at HMK HLF HMS HEP
      generalize okAt a (b.take k) b[k] = okk at *
      generalize leftB (idsO a) b[k] = lf at *
      clear hok hg hL hall hfr hfw hnew
      have HCN : Hid (∀ (W : World) (A : Option Addr) (c gm go_ : Nat) (C : Option Addr) (e_ : Nat), MksS W W (fun j => (Value.slice A k c).ownBlock = some j) (New w3.heap.size W (Value.slice A k c).ownBlock) A (b.take k) → MsS W gm gl ga go_ gw mw ma (idsO a) b[k] (.slice vB b[k].legs.length vd) C e_ → Calls Tryz.prog 43 #[.slice A k c, msV gm gl ga go_] W fun e w' => e = .returned (.bool ((b.take k).any (badI (idsO a) b[k]))) ∧ Fr No W w') := fun W A c gm go_ C e_ h1 h2 => by
        have h := containsM_any W _ _ A c (b.take k) gm gl ga go_ gw mw ma (idsO a) b[k] _ C e_ h2 h1 (by rw [HLK.out]; omega)
        rw [HLK.out] at h
        exact h
      generalize (b.take k).any (badI (idsO a) b[k]) = an at *
      generalize (touchL b[k]).length = tn at *
      generalize b[k].legs.length = vn at *
      generalize b[k].cl = cl at *
      generalize b[k].sq = sq at *
      generalize b[k].kd = kd at *
      generalize b[k].acct = acct at *
      generalize b[k].peer = peer at *
      generalize b[k].sum = sum at *
      generalize b[k].per = per at *
      generalize b[k].hold = hold at *
      generalize b[k].note = note at *
      go_wp2_with fail
      (with_reducible refine (HMK.out _ (HFW.out.alloc _)).mono ?_)
      rintro e w4 ⟨C, e_, rfl, ho4, -, -, hf4, hn4⟩
      have hbo4 := (Blk.new wr 39 #[.int .i64 cl, .int .i64 sq, .int .i64 kd, .string acct, .string peer, .int .i64 sum, .slice vB vn vd, .int .i64 per, .int .i64 hold, .string note]).fr hf4 (fun h => h)
      have HT4 : Hid (Rd w4 (New (wr.heap.size + 1) w4 none) 1 C tn (ts (touchL b[k]))) := (ho4.rd.lt (by omega)).more fun j hj => ⟨by have := hn4 j hj.1; rw [World.size_alloc] at this; exact this, hj.2, fun h => by cases h⟩
      have HBO : Hid (Blk (w4.alloc (.cells #[.int .i64 cl, .int .i64 sq, .int .i64 kd, .string acct, .string peer, .int .i64 sum, .slice vB vn vd, .int .i64 per, .int .i64 hold, .string note, .slice C tn e_] 70)) wr.heap.size 39 #[.int .i64 cl, .int .i64 sq, .int .i64 kd, .string acct, .string peer, .int .i64 sum, .slice vB vn vd, .int .i64 per, .int .i64 hold, .string note]) := hbo4.alloc _
      have HBM : Hid (Blk (w4.alloc (.cells #[.int .i64 cl, .int .i64 sq, .int .i64 kd, .string acct, .string peer, .int .i64 sum, .slice vB vn vd, .int .i64 per, .int .i64 hold, .string note, .slice C tn e_] 70)) w4.heap.size 70 #[.int .i64 cl, .int .i64 sq, .int .i64 kd, .string acct, .string peer, .int .i64 sum, .slice vB vn vd, .int .i64 per, .int .i64 hold, .string note, .slice C tn e_]) := Blk.new _ _ _
      have HF45 : Hid (Fr No (wr.alloc (.cells #[.int .i64 cl, .int .i64 sq, .int .i64 kd, .string acct, .string peer, .int .i64 sum, .slice vB vn vd, .int .i64 per, .int .i64 hold, .string note] 39)) (w4.alloc (.cells #[.int .i64 cl, .int .i64 sq, .int .i64 kd, .string acct, .string peer, .int .i64 sum, .slice vB vn vd, .int .i64 per, .int .i64 hold, .string note, .slice C tn e_] 70))) := hf4.alloc _
      have HR5 : Hid (Fr No wr (w4.alloc (.cells #[.int .i64 cl, .int .i64 sq, .int .i64 kd, .string acct, .string peer, .int .i64 sum, .slice vB vn vd, .int .i64 per, .int .i64 hold, .string note, .slice C tn e_] 70))) := (((Fr.refl No wr).alloc _).trans hf4).alloc _
      have HTC : Hid (Rd (w4.alloc (.cells #[.int .i64 cl, .int .i64 sq, .int .i64 kd, .string acct, .string peer, .int .i64 sum, .slice vB vn vd, .int .i64 per, .int .i64 hold, .string note, .slice C tn e_] 70)) (New (wr.alloc (.cells #[.int .i64 cl, .int .i64 sq, .int .i64 kd, .string acct, .string peer, .int .i64 sum, .slice vB vn vd, .int .i64 per, .int .i64 hold, .string note] 39)).heap.size (w4.alloc (.cells #[.int .i64 cl, .int .i64 sq, .int .i64 kd, .string acct, .string peer, .int .i64 sum, .slice vB vn vd, .int .i64 per, .int .i64 hold, .string note, .slice C tn e_] 70)) none) 1 C tn (ts (touchL b[k]))) := (HT4.out.fr (S := No) (by omega) ((Fr.refl _ _).alloc _) (fun _ _ _ h => h)).more fun j hj => ⟨by rw [World.size_alloc]; exact hj.1, by rw [World.size_alloc]; have := hj.2.1; omega, hj.2.2⟩
      have HMS5 := Lib.hid (HMS.out (w4.alloc (.cells #[.int .i64 cl, .int .i64 sq, .int .i64 kd, .string acct, .string peer, .int .i64 sum, .slice vB vn vd, .int .i64 per, .int .i64 hold, .string note, .slice C tn e_] 70)) w4.heap.size wr.heap.size C e_ (HFR.out.trans HR5.out) ⟨_, HBM.out⟩ ⟨_, HBO.out⟩ (HTC.out.more fun _ _ => trivial))
      clear ho4 hf4 hn4 hbo4 HT4 q0 q1 q2 q3 q4 q5 q6 q7 q8 q9
      go_upto_region 8 with (fail)
      have HW5 : Hid (Fr No w3 (w4.alloc (.cells #[.int .i64 cl, .int .i64 sq, .int .i64 kd, .string acct, .string peer, .int .i64 sum, .slice vB vn vd, .int .i64 per, .int .i64 hold, .string note, .slice C tn e_] 70))) := HFR.out.trans HR5.out
      have hzl := HMS5.out.lf
      have hbo := HBO.out
      have x0 := hbo.cell 0
      have x1 := hbo.cell 1
      have x2 := hbo.cell 2
      have x3 := hbo.cell 3
      have x4 := hbo.cell 4
      have x5 := hbo.cell 5
      have x6 := hbo.cell 6
      have x7 := hbo.cell 7
      have x8 := hbo.cell 8
      have x9 := hbo.cell 9
      simp only [List.getElem?_toArray, List.getElem?_cons_zero, List.getElem?_cons_succ] at x0 x1 x2 x3 x4 x5 x6 x7 x8 x9
      clear hbo
      generalize hgm : w4.heap.size = gm at *
      generalize w4.alloc (.cells #[.int .i64 cl, .int .i64 sq, .int .i64 kd, .string acct, .string peer, .int .i64 sum, .slice vB vn vd, .int .i64 per, .int .i64 hold, .string note, .slice C tn e_] 70) = w5 at *
      clear hgm
      cases lf
      · cases an
        · have hok1 : okk = true := HOK.out
          subst hok1
          clear HBD
          go_wp2_with fail
          (with_reducible refine (HLF.out _ HW5.out).mono ?_)
          rintro e w6 ⟨rfl, hf6⟩
          clear x0 x1 x2 x3 x4 x5 x6 x7 x8 x9 hzl
          obtain ⟨oA, oc, hlv, -, -⟩ := HOWN.out.form
          rw [HLK.out] at hlv
          subst hlv
          have HC6 := Lib.hid (HCN.out w6 oA oc gm wr.heap.size C e_ ((HOWN.out.no HR5.out).no hf6).mks (HMS5.out.no hf6))
          go_wp2_with fail
          (with_reducible refine HC6.out.mono ?_)
          rintro e w7 ⟨rfl, hf7⟩
          have HX : Hid (Fr No w5 w7) := hf6.trans hf7
          clear hf6 hf7 HC6
          have HO6 : Hid (OwnM w3.heap.size w7 _ (b.take k)) := (HOWN.out.no HR5.out).no HX.out
          have hbm := HBM.out.fr HX.out (fun h => h)
          have m0 := hbm.cell 0
          have m1 := hbm.cell 1
          have m2 := hbm.cell 2
          have m3 := hbm.cell 3
          have m4 := hbm.cell 4
          have m5 := hbm.cell 5
          have m6 := hbm.cell 6
          have m7 := hbm.cell 7
          have m8 := hbm.cell 8
          have m9 := hbm.cell 9
          have m10 := hbm.cell 10
          simp only [List.getElem?_toArray, List.getElem?_cons_zero, List.getElem?_cons_succ] at m0 m1 m2 m3 m4 m5 m6 m7 m8 m9 m10
          clear hbm
          obtain ⟨cells, hown6, hE6⟩ := HO6.out
          obtain ⟨cells0, hown0, hE0⟩ := HOWN.out
          have HE0 := Lib.hid hE0
          have HO0 := Lib.hid hown0
          have HW6 := Lib.hid (hown0.fr (HR5.out.trans HX.out) (fun _ _ h => h))
          clear hown6 hE6 hown0 hE0
          go_wp2_with (at_builtin; refine wpList_app _ rfl (.tmp 34) (.tmp 36) 86 86 rfl elM (HW6.out.alloc _) rfl (Src.of_new (cs := #[.int .i64 cl, .int .i64 sq, .int .i64 kd, .string acct, .string peer, .int .i64 sum, .slice vB vn vd, .int .i64 per, .int .i64 hold, .string note, .slice C tn e_]) (t := 70) w7.heap.size (heap_alloc_new w7 _) Tryz.underlying86 rfl (by simp [Value.oneCell'])) rfl (by rw [HLK.out]; simp only [maxLen]; omega) (by rw [HLK.out]; omega) ?_; intro v1 w8 hown8 hfr8 hnew8)
          go_roundw
          case rel =>
            refine ⟨k + 1, HLT.out, by go_num, ?_, ?_, ?_, HST.out (by first | rfl | trivial)⟩
            · rw [HTK.out]
              refine ⟨_, by rw [List.length_append]; exact hown8, ?_⟩
              exact HEP.out _ _ _ _ _ _ _ _ _ HE0.out HO0.out.lt (by have := HFR.out.size; rw [World.size_alloc]; omega) ((Fr.refl _ _).alloc _) HF45.out HTC.out (HX.out.alloc _) hfr8 hnew8
            · refine (((HFR.out.trans HR5.out).trans HX.out).alloc _).trans' hfr8 fun i hi hlt => ?_
              have hi : _ = some i := hi
              have := newer_none HNW.out i hi
              omega
            · refine HNW.out.trans (Newer.of hnew8) ?_
              rw [World.size_alloc]
              have h1 := HR5.out.size
              have h2 := HX.out.size
              have := HFR.out.size
              omega
          case measure => have := HLT.out; simp [intOf]; omega
        · have hok1 : okk = false := HOK.out
          subst hok1
          have HBE := Lib.hid (HBD.out rfl)
          clear HBD HST
          go_wp2_with fail
          (with_reducible refine (HLF.out _ HW5.out).mono ?_)
          rintro e w6 ⟨rfl, hf6⟩
          clear x0 x1 x2 x3 x4 x5 x6 x7 x8 x9 hzl
          obtain ⟨oA, oc, hlv, -, -⟩ := HOWN.out.form
          rw [HLK.out] at hlv
          subst hlv
          have HC6 := Lib.hid (HCN.out w6 oA oc gm wr.heap.size C e_ ((HOWN.out.no HR5.out).no hf6).mks (HMS5.out.no hf6))
          go_wp2_with fail
          (with_reducible refine HC6.out.mono ?_)
          rintro e w7 ⟨rfl, hf7⟩
          go_wp2
          go_ret
          exact ⟨by rw [HBE.out]; rfl, (HFW.out.trans HR5.out).trans (hf6.trans hf7)⟩
      · have hok1 : okk = true := by rw [HOK.out]; cases an <;> rfl
        subst hok1
        clear HBD
        go_wp2_with fail
        (with_reducible refine (HLF.out _ HW5.out).mono ?_)
        rintro e w6 ⟨rfl, hf6⟩
        have HX := Lib.hid hf6
        clear x0 x1 x2 x3 x4 x5 x6 x7 x8 x9 hzl hf6
        have HO6 : Hid (OwnM w3.heap.size w6 _ (b.take k)) := (HOWN.out.no HR5.out).no HX.out
        have hbm := HBM.out.fr HX.out (fun h => h)
        have m0 := hbm.cell 0
        have m1 := hbm.cell 1
        have m2 := hbm.cell 2
        have m3 := hbm.cell 3
        have m4 := hbm.cell 4
        have m5 := hbm.cell 5
        have m6 := hbm.cell 6
        have m7 := hbm.cell 7
        have m8 := hbm.cell 8
        have m9 := hbm.cell 9
        have m10 := hbm.cell 10
        simp only [List.getElem?_toArray, List.getElem?_cons_zero, List.getElem?_cons_succ] at m0 m1 m2 m3 m4 m5 m6 m7 m8 m9 m10
        clear hbm
        obtain ⟨cells, hown6, hE6⟩ := HO6.out
        obtain ⟨cells0, hown0, hE0⟩ := HOWN.out
        have HE0 := Lib.hid hE0
        have HO0 := Lib.hid hown0
        have HW6 := Lib.hid (hown0.fr (HR5.out.trans HX.out) (fun _ _ h => h))
        clear hown6 hE6 hown0 hE0
        go_wp2_with (at_builtin; refine wpList_app _ rfl (.tmp 34) (.tmp 36) 86 86 rfl elM (HW6.out.alloc _) rfl (Src.of_new (cs := #[.int .i64 cl, .int .i64 sq, .int .i64 kd, .string acct, .string peer, .int .i64 sum, .slice vB vn vd, .int .i64 per, .int .i64 hold, .string note, .slice C tn e_]) (t := 70) w6.heap.size (heap_alloc_new w6 _) Tryz.underlying86 rfl (by simp [Value.oneCell'])) rfl (by rw [HLK.out]; simp only [maxLen]; omega) (by rw [HLK.out]; omega) ?_; intro v1 w8 hown8 hfr8 hnew8)
        go_roundw
        case rel =>
          refine ⟨k + 1, HLT.out, by go_num, ?_, ?_, ?_, HST.out (by first | rfl | trivial)⟩
          · rw [HTK.out]
            refine ⟨_, by rw [List.length_append]; exact hown8, ?_⟩
            exact HEP.out _ _ _ _ _ _ _ _ _ HE0.out HO0.out.lt (by have := HFR.out.size; rw [World.size_alloc]; omega) ((Fr.refl _ _).alloc _) HF45.out HTC.out (HX.out.alloc _) hfr8 hnew8
          · refine (((HFR.out.trans HR5.out).trans HX.out).alloc _).trans' hfr8 fun i hi hlt => ?_
            have hi : _ = some i := hi
            have := newer_none HNW.out i hi
            omega
          · refine HNW.out.trans (Newer.of hnew8) ?_
            rw [World.size_alloc]
            have h1 := HR5.out.size
            have h2 := HX.out.size
            have := HFR.out.size
            omega
        case measure => have := HLT.out; simp [intOf]; omega
    · obtain rfl : k = b.length := by omega
      have HE : Hid (begB a b = true) := by
        show _ = _
        unfold begB
        rw [List.all_eq_true]
        intro j hj
        have hj := List.mem_range.1 hj
        rw [List.getElem?_eq_getElem hj]
        exact hall j _ hj (List.getElem?_eq_getElem hj)
      clear hall
      go_wp2
      go_ret
      exact ⟨by rw [HE.out]; rfl, hfw⟩
end Go.Proofs.YtkkhdjchfhmliaaGreat
