/- The laws of package frame, as walks: FrameJoin. -/
import Derived.Test.YtjfbpnhkdlbinaaFrameLaw3
namespace Go.Proofs.Ytjfbpnhkdlbinaa
open Go.RowKit Go.My
set_option linter.unusedSimpArgs false
set_option linter.unusedVariables false

theorem fewF_size (l : List (List UInt8)) : (fewF l).length ≤ 20 ∧ ∀ d ∈ fewF l, d.length ≤ 300 := by
  refine ⟨by rw [fewF_length]; omega, fun d hd => ?_⟩
  simp only [fewF, List.mem_map] at hd
  obtain ⟨x, _, rfl⟩ := hd
  simp
  omega
theorem wrapV_le (l : List (List UInt8)) : (wrapV l).length ≤ l.length * 4102 := by
  unfold wrapV
  split
  · exact wrapF_le l l.length ‹_› (Nat.le_refl _)
  · simp

/-- cells that are slices of bytes -/
def ElR (w : World) (cells : List Value) (l : List (List UInt8)) : Prop :=
  cells.length = l.length ∧ ∀ (j : Nat) (d : List UInt8), l[j]? = some d → ∃ Aj cj, cells[j]? = some (.slice Aj d.length cj) ∧ Rd w (Lt w.heap.size) 1 Aj d.length (bs d) ∧ d.length ≤ cj ∧ cj ≤ maxLen
theorem RdL.open_ {w : World} {A : Option Addr} {l : List (List UInt8)} (h : RdL w A l) : ∃ cells, Rd w (Lt w.heap.size) 1 A l.length cells ∧ ElR w cells l := by
  obtain ⟨cells, h1, h2⟩ := h
  exact ⟨cells, h1, by have := h1.1; omega, h2⟩
theorem ElR.below {w w' : World} {cells : List Value} {l : List (List UInt8)} (h : ElR w cells l) (hb : Below w.heap.size w w') : ElR w' cells l := by
  have hs := hb.size
  refine ⟨h.1, fun j d hd => ?_⟩
  obtain ⟨Aj, cj, h1, h2, h3⟩ := h.2 j d hd
  exact ⟨Aj, cj, h1, (h2.below hb fun _ h => h).more fun k hk => Nat.lt_of_lt_of_le hk hs, h3⟩
theorem ElR.append {w : World} {c1 c2 : List Value} {l r : List (List UInt8)} (h : ElR w c1 l) (k : ElR w c2 r) : ElR w (c1 ++ c2) (l ++ r) := by
  refine ⟨by rw [List.length_append, List.length_append, h.1, k.1], fun j d hd => ?_⟩
  by_cases hj : j < l.length
  · rw [List.getElem?_append_left hj] at hd
    obtain ⟨Aj, cj, h1, h2⟩ := h.2 j d hd
    exact ⟨Aj, cj, by rw [List.getElem?_append_left (by rw [h.1]; exact hj)]; exact h1, h2⟩
  · rw [List.getElem?_append_right (by omega)] at hd
    obtain ⟨Aj, cj, h1, h2⟩ := k.2 _ d hd
    exact ⟨Aj, cj, by rw [List.getElem?_append_right (by rw [h.1]; omega), h.1]; exact h1, h2⟩
theorem ElR.one {w : World} {cells : List Value} {l : List (List UInt8)} (h : ElR w cells l) : ∀ u ∈ cells, u.oneCell' = true := by
  intro u hu
  obtain ⟨j, hj, rfl⟩ := List.mem_iff_getElem.1 hu
  obtain ⟨Aj, cj, h1, _⟩ := h.2 j (l[j]'(by rw [← h.1]; exact hj)) (List.getElem?_eq_getElem _)
  rw [List.getElem?_eq_getElem hj] at h1
  injection h1 with h1
  rw [h1]
  rfl
theorem ElR.rdl {w : World} {cells : List Value} {l : List (List UInt8)} {A : Option Addr} {F : Nat → Prop} (h : ElR w cells l) (hr : Rd w F 1 A l.length cells) : RdL w A l := ⟨cells, rd_lt hr (by omega), h.2⟩
theorem sameL_eq (A B : Option Addr) (n c m d : Nat) (l r : List (List UInt8)) (w : World) (h : l = r) (hn : l.length = n) (hm : r.length = m) (hl : RdL w A l) (hr : RdL w B r) (hsz : l.length ≤ 1000000000) :
    Calls Try.prog 40 #[.slice A n c, .slice B m d] w fun e w' => e = .returned (.bool true) ∧ ∃ n, w' = w.drewN n := by
  have hs := sameL_any A B c d l r w hl hr hsz
  rw [decide_eq_true h, hn, hm] at hs
  exact hs

/-- what Wrap hands back, laid open -/
theorem wrap_rd (A : Option Addr) (c : Nat) (l : List (List UInt8)) (w : World) (hr : RdL w A l) (hl : l.length ≤ 1000000) :
    Calls Try.prog 34 #[.slice A l.length c] w (fun e w' => ∃ A' c', e = .returned (.tuple #[.slice A' (wrapV l).length c', .int .i64 (wrapE l : Int)]) ∧ Rd w' (Lt w'.heap.size) 1 A' (wrapV l).length (bs (wrapV l)) ∧ (wrapV l).length ≤ c' ∧ c' ≤ maxLen ∧ Fr No w w') := by
  refine (wrap_any A c l w hr hl).mono ?_
  rintro e w' ⟨v, rfl, ho, hf, hn⟩
  obtain ⟨A', c', rfl, h1, h2⟩ := ho.form
  exact ⟨A', c', rfl, rd_lt ho.rd (by omega), h1, h2, hf⟩

theorem scan_bounds (f : Nat) : ∀ b : List UInt8, (scanF f b).1.length ≤ b.length ∧ (scanF f b).2.1 ≤ b.length := by
  induction f with
  | zero => intro b; simp [scanF]
  | succ f ih =>
    intro b
    unfold scanF
    by_cases hb : b = []
    · rw [if_pos hb]; simp
    · rw [if_neg hb]
      by_cases h0 : (nextF b).1 = 0
      · rw [if_pos h0]
        obtain ⟨_, heq⟩ := next_only b (nextF b).2 (Prod.ext h0 rfl)
        have hl := congrArg List.length heq
        rw [List.length_append, frm_length] at hl
        have := ih (b.drop (6 + (nextF b).2.length))
        rw [List.length_drop] at this hl
        simp only [List.length_cons]
        omega
      · rw [if_neg h0]; simp
theorem scan_count (b : List UInt8) : (scan b).1.length ≤ b.length := (scan_bounds _ b).1
theorem scan_size (b : List UInt8) : (scan b).2.1 ≤ b.length := (scan_bounds _ b).2
theorem scan_len (A : Option Addr) (n c : Nat) (b : List UInt8) (w : World) (hn : b.length = n) (hr : Rd w (Lt w.heap.size) 1 A n (bs b)) (hl : b.length ≤ c) (hc : c ≤ maxLen) (hsm : b.length ≤ 1000000000) :
    Calls Try.prog 38 #[.slice A n c] w (RetScan w b) := by
  subst hn
  exact scan_any A c b w hr hl hc hsm

/-- one list of bytes that came in -/
def RdB (w : World) (cs : List Value) (d : List UInt8) : Prop := ∃ A c, cs = [.slice A d.length c] ∧ Rd w (Lt w.heap.size) 1 A d.length (bs d) ∧ d.length ≤ c ∧ c ≤ maxLen
theorem rdB_of {H : Type} {enc : TypeId × Value → H} {w : World} {base : Nat} {spare : Nat → Bool} {held : Bool} {n : Nat} {cs : List Value} {x : DataW H × List MemPlace} (h : DataW.trod enc Try.prog w base spare held n 25 cs = some x) : ∃ d, RdB w cs d := by
  obtain ⟨A, c, l, h1, h2, h3, h4⟩ := open_bytes Try.underlying25 Try.underlying5 (by kernel_rfl) h
  exact ⟨l, A, c, h1, h2, h3, h4⟩
theorem rdl_of {w : World} {A : Option Addr} {cells : List Value} {l : List (List UInt8)} (hr : Rd w (Lt w.heap.size) 1 A l.length cells) (hE : Each (RdB w) 1 cells l) : RdL w A l := by
  refine ⟨cells, hr, fun j d hd => ?_⟩
  obtain ⟨Aj, cj, h1, h2⟩ := hE.2 j d hd
  refine ⟨Aj, cj, ?_, h2⟩
  rw [Nat.mul_one] at h1
  have h0 := congrArg (fun t => t[0]?) h1
  simpa [List.getElem?_take, List.getElem?_drop] using h0

set_option maxRecDepth 100000 in
set_option maxHeartbeats 1000000 in
theorem frameJoin_walk (A : Option Addr) (c : Nat) (l : List (List UInt8)) (A1 : Option Addr) (c1 : Nat) (b : List UInt8) (w : World)
    (rl : RdL w A l) (lc : l.length ≤ c) (cm : c ≤ maxLen) (rd : Rd w (Lt w.heap.size) 1 A1 b.length (bs b)) (lc1 : b.length ≤ c1) (cm1 : c1 ≤ maxLen) :
    Calls Try.prog 11 #[.slice A l.length c, .slice A1 b.length c1] w (RetTrue w) := by
  obtain ⟨rdB, hB1⟩ := rd_take b 5000 rd
  have HE := Lib.hid fun w => early3_any A1 b.length c1 w lc1 cm1
  have hB2 : (b.take 5000).length ≤ 5000 := by omega
  have hBc : (b.take 5000).length ≤ c1 := by omega
  generalize b.take 5000 = B at *
  generalize b.length = L at *
  rw [← hB1] at rdB HE
  clear rd hB1
  have HRL := Lib.hid rl
  have HRB := Lib.hid rdB
  have HM := Lib.hid cm
  have HM1 := Lib.hid cm1
  clear rl rdB cm cm1
  go_enter Try.func11, Try.ntmps11
  go_wp2_with fail
  refine (livesF _).mono ?_
  rintro e w1 ⟨rfl, hb1⟩
  have hs1 := hb1.size
  go_wp2_with fail
  refine (few_any A c l w1 (HRL.out.below hb1) lc HM.out).mono ?_
  rintro e w2 ⟨A2, c2, rfl, rl2, hl2, hm2, hf2⟩
  obtain ⟨hfl, hfe⟩ := fewF_size l
  have hb2 := below_fr_no hb1 hf2 hs1
  have hs2 := hb2.size
  go_wp2_with fail
  refine (wrap_rd A2 c2 (fewF l) w2 rl2 (by omega)).mono ?_
  rintro e w3 ⟨A3, c3, rfl, rd3, hl3, hm3, hf3⟩
  have hb3 := below_fr_no hb2 hf3 hs2
  have hs3 := hb3.size
  have hwl := wrapV_le (fewF l)
  by_cases hok : AllOk (fewF l)
  · have hv : wrapV (fewF l) = wrapF (fewF l) := if_pos hok
    have he : wrapE (fewF l) = 0 := if_pos hok
    rw [he]
    rw [hv] at rd3 hl3 hwl ⊢
    go_wp2_with fail
    refine (HE.out _).mono ?_
    rintro e w3' ⟨rfl, rfl⟩
    have rdb3 : Rd w3 (Lt w3.heap.size) 1 A1 B.length (bs B) := (HRB.out.below hb3 fun _ h => h).more fun k hk => Nat.lt_of_lt_of_le hk hs3
    go_wp2_with fail
    refine (scan_any A1 c1 B w3 rdb3 hBc HM1.out (by omega)).mono ?_
    rintro e w4 ⟨A4, c4, rfl, rl4, hl4, hm4, hf4⟩
    have hb4 := below_fr_no hb3 hf4 hs3
    have hs4 := hb4.size
    have hscw := scan_wrap (fewF l) B hok
    have rd4 : Rd w4 (Lt w3.heap.size) 1 A3 (wrapF (fewF l)).length (bs (wrapF (fewF l))) := rd3.below hf4.belowNo fun _ h => h
    have hsrc4 : Src Try.prog w4 1 25 (.slice A3 (wrapF (fewF l)).length c3) (wrapF (fewF l)).length (bs (wrapF (fewF l))) := Src.of_rd rd4 (bs_one _) Try.underlying25
    have hWl : (wrapF (fewF l)).length ≤ 82040 := by omega
    have hXl : (scan B).1.length ≤ 5000 := by have := scan_count B; omega
    have hnl : (scan B).2.1 ≤ 5000 := by have := scan_size B; omega
    have HXO := Lib.hid rl4.open_
    have HSW := Lib.hid hscw
    clear hscw rd4 rd3 rdb3 hwl hl3 hm3 hf4 hf3 hfe rl2 hl2 hm2 hv he
    generalize (scan B).1 = X at *
    generalize (scan B).2.1 = xn at *
    generalize (scan B).2.2 = xe at *
    generalize hWF : wrapF (fewF l) = WF at *
    have hFl : (fewF l).length ≤ 20 := hfl
    go_upto_region 9 with (first
      | (at_builtin; refine wpList_app _ rfl (.const (.slice none 0 0)) (.tmp 35) 25 25 rfl elB (Own.nil _ _ _) rfl hsrc4 rfl (by simp only [maxLen]; omega) (by omega) ?_; intro v5 w5 ho5 hf5 hn5; rw [Nat.zero_add, List.nil_append] at ho5
         have hb5 : Below w.heap.size w w5 := below_fr_no hb4 (fr_at_none hf5) hs4
         have hsrc5 : Src Try.prog w5 1 25 (.slice A1 B.length c1) B.length (bs B) := Src.of_rd (HRB.out.below hb5 fun _ h => h) (bs_one _) Try.underlying25
         have hn5' : Newer w.heap.size none v5.ownBlock := Newer.trans (.inl rfl) (Newer.of hn5) hs4)
      | (at_builtin; refine wpList_app _ rfl (.tmp 36) (.tmp 37) 25 25 rfl elB ho5 rfl hsrc5 rfl (by simp only [maxLen]; omega) (by omega) ?_; intro v6 w6 ho6 hf6 hn6; rw [← bs_append] at ho6; obtain ⟨A6, c6, rfl, hl6, hm6⟩ := ho6.form
         have hb6 : Below w.heap.size w w6 := below_fr hb5 hf6 hb5.size (fun i hi => newer_none hn5' i hi)
         have hb46 : Below w4.heap.size w4 w6 := below_fr ((fr_at_none hf5).belowNo) hf6 (hf5.size) (fun i hi => by
           rcases hn5 with h | h
           · rw [h] at hi; simp [AtO, Value.ownBlock] at hi
           · rw [h] at hi; simp [AtO] at hi; omega))
      | (go_at_call 38; refine (scan_len A6 (WF.length + B.length) c6 (WF ++ B) w6 (by rw [List.length_append]) (rd_lt ho6.rd (by omega)) (by rw [List.length_append]; omega) hm6 (by rw [List.length_append]; omega)).mono ?_; rintro e w7 ⟨A7, c7, rfl, rl7, hl7, hm7, hf7⟩))
    have hsw := HSW.out
    rw [Nat.add_comm WF.length xn] at hsw
    rw [hsw] at rl7 hl7 ⊢
    simp only at rl7 hl7 ⊢
    have hyl : (fewF l ++ X).length = (fewF l).length + X.length := List.length_append
    have hb7 : Below w.heap.size w w7 := below_fr_no hb6 hf7 hb6.size
    have hb47 : Below w4.heap.size w4 w7 := below_fr_no hb46 hf7 hb46.size
    obtain ⟨xcells, hxr, hxe⟩ := HXO.out
    have hs7 := hb7.size
    clear hsw hf7 hf6 hf5 hn5 hn6 hsrc4 hsrc5 hn5' ho5 ho6 HSW hWF HXO
    go_wp2_with (first
      | (go_at_call 31; refine (few_any A c l w7 (HRL.out.below hb7) lc HM.out).mono ?_; rintro e w9 ⟨A9, c9, rfl, rl9, hl9, hm9, hf9⟩
         obtain ⟨fcells, hfr, hfe⟩ := rl9.open_
         have hb9 : Below w.heap.size w w9 := below_fr_no hb7 hf9 hs7
         have hb49 : Below w4.heap.size w4 w9 := below_fr_no hb47 hf9 hb47.size
         have hxe9 := hxe.below hb49
         have hall9 := hfe.append hxe9
         have hry9 : RdL w9 A7 (fewF l ++ X) := rl7.below hf9.belowNo
         have hsrc9 : Src Try.prog w9 1 47 (.slice A9 (fewF l).length c9) (fewF l).length fcells := Src.of_rd hfr hfe.one Try.underlying47)
      | (at_builtin; go_big_want; rename_i K hK; refine wp_app _ (.const (.slice none 0 0)) (.tmp 57) 47 47 rfl elL (Own.nil _ _ _) rfl hsrc9 rfl (by simp only [maxLen]; omega) (by omega) ?_; intro v10 w10 ho10 hf10 hn10; rw [Nat.zero_add, List.nil_append] at ho10
         have hsrc10 : Src Try.prog w10 1 47 (.slice A4 X.length c4) X.length xcells := Src.of_rd ((hxr.below hb49 fun _ h => h).below (fr_at_none hf10).belowNo fun k hk => Nat.lt_of_lt_of_le hk hb49.size) hxe.one Try.underlying47
         have hn10' : Newer w9.heap.size none v10.ownBlock := Newer.of hn10
         have hb10 : Below w9.heap.size w9 w10 := (fr_at_none hf10).belowNo
         refine hK _ _ ?_
         clear hK K)
      | (at_builtin; go_big_want; rename_i K hK; refine wp_app _ (.tmp 58) (.tmp 59) 47 47 rfl elL ho10 rfl hsrc10 rfl (by simp only [maxLen]; omega) (by omega) ?_; intro v11 w11 ho11 hf11 hn11; obtain ⟨A11, c11, rfl, hl11, hm11⟩ := ho11.form
         have hb11 : Below w9.heap.size w9 w11 := below_fr hb10 hf11 hb10.size (fun i hi => newer_none hn10' i hi)
         have hrz : RdL w11 A11 (fewF l ++ X) := (hall9.below hb11).rdl (by rw [List.length_append]; exact ho11.rd)
         refine hK _ _ ?_
         clear hK K)
      | (go_at_call 40; refine (sameL_eq A7 A11 _ _ _ _ _ _ w11 rfl hyl hyl (hry9.below hb11) hrz (by rw [hyl]; omega)).mono ?_; rintro e w12 ⟨rfl, nd, rfl⟩))
    go_ret
    exact ⟨rfl, below_drewN (below_fresh hb9 hb11 hb9.size) nd⟩
  · have hv : wrapV (fewF l) = [] := if_neg hok
    have he : wrapE (fewF l) = 1 := if_neg hok
    rw [he, hv]
    go_wp2
    go_ret
    exact ⟨rfl, hb3⟩
theorem frameJoin_in (A : Option Addr) (c : Nat) (cells : List Value) (l : List (List UInt8)) (A1 : Option Addr) (c1 : Nat) (b : List UInt8) (w : World)
    (rd : Rd w (Lt w.heap.size) 1 A l.length cells) (lc : l.length ≤ c) (cm : c ≤ maxLen) (hE : Each (RdB w) 1 cells l) (rd1 : Rd w (Lt w.heap.size) 1 A1 b.length (bs b)) (lc1 : b.length ≤ c1) (cm1 : c1 ≤ maxLen) :
    Calls Try.prog 11 #[.slice A l.length c, .slice A1 b.length c1] w (RetTrue w) := frameJoin_walk A c l A1 c1 b w (rdl_of rd hE) lc cm rd1 lc1 cm1
end Go.Proofs.Ytjfbpnhkdlbinaa
