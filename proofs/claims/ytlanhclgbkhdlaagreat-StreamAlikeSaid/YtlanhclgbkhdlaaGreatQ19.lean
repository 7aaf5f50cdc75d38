/- StreamOnce: what the walk needs. StreamOnce: the walk where the account's name may not be. StreamOnce: the walk where the account's name may be. StreamOnce: the walk. StreamLast: the walk. -/
import Derived.Test.YtlanhclgbkhdlaaGreatQ18
namespace Go.Proofs.YtlanhclgbkhdlaaGreat
open Go.RowKit Go.My Go.Maps
set_option linter.unusedSimpArgs false
set_option linter.unusedVariables false
attribute [local go_sem ↓] Go.wp_at_zero Go.wp_at_succ

/-- what an order that may be touches are names -/
theorem touch_valid {o : Od} (hr : rightO o = true) {s : List UInt8} (hs : s ∈ touchL o) : nameB s = true := by
  obtain ⟨hm, k6⟩ := touch_names hr hs
  unfold rightO at hr
  simp only [Bool.and_eq_true, decide_eq_true_eq] at hr
  obtain ⟨h1, h2, hid, ha, hp, hs2, hl, hper, hh, hn⟩ := hr
  unfold names at hm
  have han : o.kd ≠ 2 → nameB o.an = true := fun h => by
    unfold acctB at ha
    rw [if_neg (by rintro (e | e); exact h e; exact k6 e)] at ha
    exact ha
  by_cases k2 : o.kd = 2
  · rw [if_pos k2] at hm
    unfold legsB at hl
    rw [if_pos k2] at hl
    obtain ⟨g, hg, rfl⟩ := List.mem_map.1 hm
    unfold rightB at hl
    simp only [Bool.and_eq_true, List.all_eq_true] at hl
    exact (hl.1.2 g hg).1
  rw [if_neg k2] at hm
  by_cases k4 : o.kd = 4
  · rw [if_pos k4, List.mem_cons, List.mem_singleton] at hm
    rcases hm with rfl | rfl
    · exact han k2
    · unfold peerB at hp
      rw [if_pos k4, Bool.and_eq_true] at hp
      exact hp.1
  · rw [if_neg k4, List.mem_singleton] at hm
    subst hm
    exact han k2
theorem newEv_bad {b : Bk} {o : Od} {nm : List UInt8} (h : nameB nm = false) : newEv b o nm = [] := by
  unfold newEv
  refine if_neg fun e => ?_
  have hr : rightO o = true := by
    have h1 := e.1
    unfold doR at h1
    split at h1
    · assumption
    · cases h1
  rw [touch_valid hr e.2] at h
  cases h
theorem evsL_bad {nm : List UInt8} (h : nameB nm = false) : ∀ (b : Bk) (l : List Od), evsL b l nm = []
  | _, [] => rfl
  | b, o :: r => by
    show newEv b o nm ++ evsL (doB b o) r nm = []
    rw [newEv_bad h, evsL_bad h]
    rfl
theorem setG_setG (g : List UInt8 → Option Rdr) (nm : List UInt8) (x y : Rdr) : setG (setG g nm x) nm y = setG g nm y := by
  funext j
  unfold setG
  by_cases e : j = nm
  · simp [e]
  · simp [e]
theorem setG_at (g : List UInt8 → Option Rdr) (nm : List UInt8) (x : Rdr) : setG g nm x nm = some x := by unfold setG; rw [if_pos rfl]
theorem moveE_ok {n most : Int} (h0 : 0 ≤ n) (h : n ≤ most) : moveE n most = 0 := by unfold moveE; rw [if_neg (by omega)]
theorem moveE_bad {n most : Int} (h : most < n) : moveE n most = 13 := by unfold moveE; rw [if_pos (.inr h)]
theorem fewO_legs {l : List Od} {n : Nat} : ∀ o ∈ fewO l n, o.legs.length ≤ 100000 := fun o ho => by
  unfold fewO at ho
  obtain ⟨x, _, rfl⟩ := List.mem_map.1 ho
  unfold Od.few8
  simp only [List.length_take]
  omega
theorem readMe (a : ByteArray) : readE noRd 0 (⟨#[109, 101]⟩ : ByteArray).data.toList a.data.toList = if nameB a.data.toList = true then 0 else 1 := by
  unfold readE
  have h1 : nameB (⟨#[109, 101]⟩ : ByteArray).data.toList = true := by decide +kernel
  rw [h1]
  cases nameB a.data.toList <;> rfl
/-- what a desk does while a law holds it: it changes its own blocks, and makes new ones -/
structure Run (w4 : World) (d : Dp) (f : List UInt8 → Option Value) (wr : World) : Prop where
  fr : Fr (d.all noF) w4 wr
  sub : ∀ i, d.all f i → d.all noF i ∨ w4.heap.size ≤ i
theorem Run.start {w4 : World} {d : Dp} : Run w4 d noF w4 := ⟨Fr.refl _ _, fun _ h => .inl h⟩
theorem Run.no {w4 wr w' : World} {d : Dp} {f : List UInt8 → Option Value} (h : Run w4 d f wr) (hf : Fr No wr w') : Run w4 d f w' := ⟨h.fr.trans (hf.mono fun _ _ h => False.elim h), h.sub⟩
theorem Run.take {w4 wr w' : World} {d : Dp} {f : List UInt8 → Option Value} (h : Run w4 d f wr) (hf : Fr (At1 d.r) wr w') : Run w4 d f w' := ⟨h.fr.trans (hf.mono fun i _ h => .inr (.inr (.inr h))), h.sub⟩
theorem Run.did {w4 wr w' : World} {d : Dp} {f f' : List UInt8 → Option Value} (h : Run w4 d f wr) (hf : Fr (d.wr f) wr w') (hs : ∀ i, evB d.m f' i → evB d.m f i ∨ wr.heap.size ≤ i) : Run w4 d f' w' :=
  ⟨h.fr.trans' hf fun i hi hlt => (h.sub i (Dp.wr_all hi)).resolve_right (by omega), fun i hi => by
    have := h.fr.size
    rcases hi with e | e | e | e
    · exact h.sub i (.inl e)
    · exact h.sub i (.inr (.inl e))
    · rcases hs i e with h3 | h3
      · exact h.sub i (.inr (.inr (.inl h3)))
      · exact .inr (by omega)
    · exact h.sub i (.inr (.inr (.inr e)))⟩
def NoneRel (w4 : World) (d : Dp) (l : List Od) (iv : Value) (wr : World) : Prop :=
  ∃ (j : Nat) (f : List UInt8 → Option Value), j ≤ l.length ∧ iv = .int .i64 j ∧ DkS wr d f (12 * j) (foldB bk0 (l.take j)) (evsL bk0 (l.take j)) 0 noRd ∧ Run w4 d f wr
/-- the step that all these laws make: an order of the list is done -/
theorem do_step {w0 w4 wr : World} {d : Dp} {f : List UInt8 → Option Value} {l : List Od} {j k : Nat} {g : List UInt8 → Option Rdr} (hlt : j < l.length) (hl : l.length ≤ 1000) (hlg : ∀ o ∈ l, o.legs.length ≤ 100000) (hdk : DkS wr d f (12 * j) (foldB bk0 (l.take j)) (evsL bk0 (l.take j)) k g) (hd0 : ∀ i, d.all noF i → w0.heap.size ≤ i) (hw : w0.heap.size ≤ w4.heap.size) (hrun : Run w4 d f wr) (hok : l[j].ok) {v : Value} (hL : LgS w0 (Lt w0.heap.size) v l[j].legs) (hb : Below w0.heap.size w0 w4) (W : World) (hW : Fr No wr W) :
    Calls Tryz.prog 16 #[.pointer (some ⟨d.p, 0, none⟩), l[j].val v] W fun e w' => (∃ x, e = .returned x) ∧ ∃ f', DkS w' d f' (12 * (j + 1)) (foldB bk0 (l.take (j + 1))) (evsL bk0 (l.take (j + 1))) k g ∧ Run w4 d f' w' ∧ Fr (d.wr f) W w' ∧ ∀ i, evB d.m f' i → evB d.m f i ∨ W.heap.size ≤ i := by
  have hnew : ∀ i, d.all f i → w0.heap.size ≤ i := fun i hi => by
    rcases hrun.sub i hi with h | h
    · exact hd0 i h
    · omega
  have hbW : Below w0.heap.size w0 W := (Fr.below_trans hb hrun.fr (by omega) (fun i hi h => by have := hd0 i h; omega)).trans ((hW.below_at (by have := hrun.fr.size; omega) (fun i _ h => h)))
  refine (ddo_any (Lt w0.heap.size) l[j] v W (hdk.no hW) hok (hL.below hbW) (fun i hi => ?_) (hlg _ (List.getElem_mem hlt)) (by omega) (fun nm => ?_)).mono ?_
  · have hi : i < w0.heap.size := hi
    have h1 := hbW.size
    have h2 := hrun.fr.size
    have h3 := hW.size
    exact ⟨by omega, fun e => by have := hnew i (.inr (.inl e)); omega⟩
  · have := evsL_len bk0 (l.take j) nm
    rw [List.length_take] at this
    omega
  · rintro e w' ⟨f', rfl, hd', hf', hs'⟩
    refine ⟨⟨_, rfl⟩, f', ?_, (hrun.no hW).did hf' hs', hf', hs'⟩
    rw [fold_take_next bk0 l j hlt]
    exact hd'.same (by omega) (fun nm => (evs_take_next bk0 l j hlt nm).symm)
end Go.Proofs.YtlanhclgbkhdlaaGreat

namespace Go.Proofs.YtlanhclgbkhdlaaGreat
open Go.RowKit Go.My Go.Maps
set_option linter.unusedSimpArgs false
set_option linter.unusedVariables false
attribute [local go_sem ↓] Go.wp_at_zero Go.wp_at_succ

set_option maxRecDepth 100000 in
set_option maxHeartbeats 4000000 in
theorem once_bad (A : Option Addr) (c : Nat) (l0 : List Od) (B : Option Addr) (dB : Nat) (S : List Int) (a : ByteArray) (w : World) (ra : OdsS w w (Lt w.heap.size) A l0) (ca : l0.length ≤ c) (ma : c ≤ maxLen) (rb : Rd w (Lt w.heap.size) 1 B S.length (is_ S)) (cb : S.length ≤ dB) (mb : dB ≤ maxLen) (hI : I64s S) (hs : a.size ≤ maxLen) (hbad : nameB a.data.toList = false) :
    Calls Tryz.prog 4 #[.slice A l0.length c, .slice B S.length dB, .string a] w fun e w' => e = .returned (.bool true) ∧ Below w.heap.size w w' := by
  have HLV := Lib.hid (lives12 w)
  have HFW : Hid (∀ W, Fr No w W → Calls Tryz.prog 8 #[.slice A l0.length c, .int .i64 60] W (FewRet w W (fewO l0 60))) := fun W hW => few10_any w W _ A c l0 60 (ra.fr hW (fun _ _ _ h => h)) ca ma (by omega)
  have HLG : Hid (∀ o ∈ fewO l0 60, o.legs.length ≤ 100000) := fewO_legs
  have hll : (fewO l0 60).length ≤ 60 := by rw [fewO_length]; omega
  have HRE : Hid (readE noRd 0 (⟨#[109, 101]⟩ : ByteArray).data.toList a.data.toList = 1) := by show _ = _; rw [readMe, hbad]; rfl
  have HBAD := Lib.hid (evsL_bad hbad)
  have HSa := Lib.hid hs
  generalize hl : fewO l0 60 = l at *
  clear hl hbad hs ra
  go_enter Tryz.func4, Tryz.ntmps4
  go_wp2_with fail
  refine HLV.out.mono ?_
  rintro e w1 ⟨rfl, hf1⟩
  have HF1 := Lib.hid hf1
  clear hf1 HLV
  go_wp2_with fail
  (with_reducible refine (dnew_any _).mono ?_)
  rintro e w2 ⟨d, rfl, hd2, hf2, hn2⟩
  have HF2 : Hid (Fr No w w2) := HF1.out.trans hf2
  have HN2 : Hid (∀ i, d.all noF i → w.heap.size ≤ i) := fun i hi => by have := hn2 i hi; have := HF1.out.size; omega
  have HD2 := Lib.hid hd2
  clear hf2 hn2 hd2
  go_wp2_with fail
  (with_reducible refine (HFW.out _ HF2.out).mono ?_)
  rintro e w3 ⟨A3, c3, rfl, ho3, hc3, hm3, hf3⟩
  have HD3 := Lib.hid (HD2.out.no hf3)
  have HF3 : Hid (Fr No w w3) := HF2.out.trans hf3
  have HO3 := Lib.hid ho3
  have HLT3 : Hid (∀ i, d.all noF i → i < w2.heap.size) := HD2.out.lt
  clear ho3 hf3 HFW
  have HRD := Lib.hid (dread_any ⟨#[109, 101]⟩ a w3 HD3.out (by decide) HSa.out (by omega))
  rw [HRE.out] at HRD
  go_wp2_with fail
  refine HRD.out.mono ?_
  rintro e w4 ⟨rfl, hd4, hf4⟩
  obtain ⟨e1, e2⟩ := read_none (a := a) HRE.out (by decide)
  rw [e1, e2] at hd4
  have HD4 := Lib.hid hd4
  have HF4 : Hid (Fr No w w4) := HF3.out.trans' hf4 (fun i hi hlt => by
    have e : i = d.r := hi
    have := HN2.out d.r (.inr (.inr (.inr rfl)))
    omega)
  have HO4 : Hid (∀ W, Fr (d.all noF) w4 W → OdsS w W (fun k => w2.heap.size ≤ k) A3 l) := fun W hW => (HO3.out.fr hf4 (fun k hk _ e => by
    have e : k = d.r := e
    have := HLT3.out d.r (.inr (.inr (.inr rfl)))
    have hk : w2.heap.size ≤ k := hk
    omega)).fr hW (fun k hk _ e => by
    have := HLT3.out k e
    have hk : w2.heap.size ≤ k := hk
    omega)
  have HB4 : Hid (∀ W, Fr (d.all noF) w4 W → Rd W (Lt w.heap.size) 1 B S.length (is_ S)) := fun W hW => (rb.fr (by decide : 0 < 1) HF4.out (fun _ _ _ h => h)).fr (by decide : 0 < 1) hW (fun k hk _ e => by
    have := HN2.out k e
    have hk : k < w.heap.size := hk
    omega)
  have HBEL : Hid (Below w.heap.size w w4) := HF4.out.belowNo
  have hw4 := HF4.out.size
  have hSm : S.length ≤ 9223372036854775807 := by unfold maxLen at mb; omega
  clear hd4 hf4 e1 e2 HRD HD3 HO3 HRE rb
  go_wp2
  go_loopw [10] (fun iv wr => NoneRel w4 d l iv wr) (fun iv _ => l.length - (intOf iv).toNat)
  case atStart => exact ⟨0, noF, Nat.zero_le _, rfl, HD4.out.same (Nat.le_refl _) (fun _ => rfl), Run.start⟩
  case round =>
    obtain ⟨j, f, hj, rfl, hdk, hrun⟩ := hrel
    have hj62 : (j : Int) ≤ 60 := by omega
    by_cases hlt : j < l.length
    · obtain ⟨ad, v, rfl, _, hok, hg, hL, q0, q1, q2, q3, q4, q5, q6, q7, q8, q9⟩ := (HO4.out wr hrun.fr).at_ j hlt
      obtain ⟨Bv, dd, rfl, hd1, hd2⟩ := hL.form
      have HDO := Lib.hid (do_step hlt (by omega) HLG.out hdk HN2.out hw4 hrun hok hL HBEL.out wr (Fr.refl _ _))
      have hmr := HB4.out
      have HRUN := Lib.hid hrun
      clear hdk hok hg hL hrun
      have HDX : Hid (Calls Tryz.prog 16 #[.pointer (some ⟨d.p, 0, none⟩), .agg #[.int .i64 l[j].cl, .int .i64 l[j].sq, .int .i64 l[j].kd, .string l[j].acct, .string l[j].peer, .int .i64 l[j].sum, .slice Bv l[j].legs.length dd, .int .i64 l[j].per, .int .i64 l[j].hold, .string l[j].note]] wr fun e w' => (∃ x, e = .returned x) ∧ ∃ f', DkS w' d f' (12 * (j + 1)) (foldB bk0 (l.take (j + 1))) (evsL bk0 (l.take (j + 1))) 0 noRd ∧ Run w4 d f' w' ∧ Fr (d.wr f) wr w' ∧ ∀ i, evB d.m f' i → evB d.m f i ∨ wr.heap.size ≤ i) := HDO.out
      clear HDO
      generalize l[j].legs.length = Ln at *
      generalize l[j].cl = cl at *
      generalize l[j].sq = sq at *
      generalize l[j].kd = kd at *
      generalize l[j].acct = acct at *
      generalize l[j].peer = peer at *
      generalize l[j].sum = sum at *
      generalize l[j].per = per at *
      generalize l[j].hold = hold at *
      generalize l[j].note = note at *
      go_wp2_with fail
      (with_reducible refine HDX.out.mono ?_)
      rintro e w5 ⟨⟨x, rfl⟩, f5, hd5, hr5, -, -⟩
      have HD5 := Lib.hid hd5
      have HR5 := Lib.hid hr5
      have HPL := Lib.hid (fun m => poll_none ⟨#[109, 101]⟩ m w5 hd5 (by decide) rfl)
      clear hd5 hr5 HDX q0 q1 q2 q3 q4 q5 q6 q7 q8 q9
      have hml := (HB4.out w5 HR5.out.fr)
      have HEND : Hid (∀ W, Fr No w5 W → NoneRel w4 d l (.int .i64 ((j : Int) + 1)) W) := fun W hW => ⟨j + 1, f5, hlt, by simp, HD5.out.no hW, HR5.out.no hW⟩
      by_cases hjm : j < S.length
      · obtain ⟨bd, u, rfl, _, hu, hbc⟩ := hml.at_ hjm
        rw [is_get S j hjm] at hu
        injection hu with hu
        subst hu
        generalize S[j] = sv at *
        go_wp2_with fail
        refine (HPL.out _).mono ?_
        rintro e w6 ⟨rfl, hf6⟩
        have HE6 := Lib.hid (HEND.out _ hf6)
        clear hf6
        go_wp2
        go_roundw
        case rel => exact HE6.out
        case measure => simp [intOf]; omega
      · go_wp2_with fail
        refine (HPL.out _).mono ?_
        rintro e w6 ⟨rfl, hf6⟩
        have HE6 := Lib.hid (HEND.out _ hf6)
        clear hf6
        go_wp2
        go_roundw
        case rel => exact HE6.out
        case measure => simp [intOf]; omega
    · obtain rfl : j = l.length := by omega
      rw [List.take_length] at hdk
      have HOF := Lib.hid (dof_any a wr hdk HSa.out (by rw [HBAD.out]; simp))
      rw [HBAD.out] at HOF
      have HRUN := Lib.hid hrun
      clear hdk hrun
      go_wp2_with fail
      (with_reducible refine HOF.out.mono ?_)
      rintro e w5 ⟨v, rfl, ho, hf, hn⟩
      obtain ⟨A5, c5, rfl, -, -⟩ := ho.form
      have HF5 := Lib.hid (fr_at_none hf)
      clear ho hf hn HOF
      go_wp2
      go_ret
      exact ⟨rfl, Fr.below_trans (Fr.below_trans HBEL.out HRUN.out.fr hw4 (fun i hi h => by have := HN2.out i h; omega)) HF5.out (by have := HRUN.out.fr.size; omega) (fun i _ h => h)⟩
end Go.Proofs.YtlanhclgbkhdlaaGreat

namespace Go.Proofs.YtlanhclgbkhdlaaGreat
open Go.RowKit Go.My Go.Maps
set_option linter.unusedSimpArgs false
set_option linter.unusedVariables false
attribute [local go_sem ↓] Go.wp_at_zero Go.wp_at_succ

theorem wpList_appW {P : Program} (w : World) {ops : Array Oper} {rest : List Oper} {o : Oper} {a : Act} {Q : Exit → Act → World → Prop} (hgd : Region.wanted o (yielded ops a.tmps) = true) (s x : Operand) (t u : TypeId)
    (ho : o.op = .call { callee := .builtin .append, args := #[s, x], argTypes := #[t, u] })
    {e : TypeId} {size bytes : Nat} (he : El P t e size bytes) {v : Value} {n : Nat} {xs : List Value} (hown : Own w e size v n xs) (hs : a.eval s = v)
    {xv : Value} {m : Nat} {news : List Value} (hsrc : Src P w size u xv m news) (hx : a.eval x = xv) (h63 : n + m ≤ maxLen) (hbytes : (n + m) * bytes ≤ 140737488355328)
    (h : ∀ v' w', Own w' e size v' (n + m) (xs ++ news) → Fr (AtO v.ownBlock) w w' → (v'.ownBlock = v.ownBlock ∨ v'.ownBlock = some w.heap.size) → wpList P ops Q rest (a.put o.dst v') w') : wpList P ops Q (o :: rest) a w :=
  BigFrame.wpList_want hgd fun _ hK => wp_app w s x t u ho he hown hs hsrc hx h63 hbytes fun v' w' h2 h3 h4 => hK _ _ (h v' w' h2 h3 h4)
theorem tmod4 (x : Int) : 0 ≤ wrap64 ((IntKind.u64.wrap x).tmod 4) ∧ wrap64 ((IntKind.u64.wrap x).tmod 4) ≤ 3 := by
  have h1 : 0 ≤ IntKind.u64.wrap x := by rw [IntKind.wrap_u64]; omega
  generalize IntKind.u64.wrap x = u at *
  have h2 : u.tmod 4 = u % 4 := Int.tmod_eq_emod_of_nonneg h1
  rw [h2]
  unfold wrap64
  omega
theorem Run.own {w4 wr w' : World} {d : Dp} {f : List UInt8 → Option Value} {g : Option Nat} (h : Run w4 d f wr) (hf : Fr (AtO g) wr w') (hg : ∀ i, g = some i → w4.heap.size ≤ i) : Run w4 d f w' :=
  ⟨h.fr.trans' hf fun i hi hlt => by have := hg i hi; omega, h.sub⟩
def OnRel (w4 : World) (d : Dp) (l : List Od) (a : ByteArray) (gv iv : Value) (wr : World) : Prop :=
  ∃ (j : Nat) (f : List UInt8 → Option Value) (t : Nat), j ≤ l.length ∧ iv = .int .i64 j ∧ DkS wr d f (12 * j) (foldB bk0 (l.take j)) (evsL bk0 (l.take j)) 1 (setG noRd (⟨#[109, 101]⟩ : ByteArray).data.toList (a, t)) ∧ Run w4 d f wr ∧
    t ≤ (evsL bk0 (l.take j) a.data.toList).length ∧ Own wr 65 5 gv t (evs ((evsL bk0 (l.take j) a.data.toList).take t)) ∧ ∀ i, gv.ownBlock = some i → w4.heap.size ≤ i ∧ ¬ d.all f i
set_option maxRecDepth 100000 in
set_option maxHeartbeats 8000000 in
theorem once_good (A : Option Addr) (c : Nat) (l0 : List Od) (B : Option Addr) (dB : Nat) (S : List Int) (a : ByteArray) (w : World) (ra : OdsS w w (Lt w.heap.size) A l0) (ca : l0.length ≤ c) (ma : c ≤ maxLen) (rb : Rd w (Lt w.heap.size) 1 B S.length (is_ S)) (cb : S.length ≤ dB) (mb : dB ≤ maxLen) (hI : I64s S) (hs : a.size ≤ maxLen) (hgood : nameB a.data.toList = true) :
    Calls Tryz.prog 4 #[.slice A l0.length c, .slice B S.length dB, .string a] w fun e w' => e = .returned (.bool true) ∧ Below w.heap.size w w' := by
  have HLV := Lib.hid (lives12 w)
  have HFW : Hid (∀ W, Fr No w W → Calls Tryz.prog 8 #[.slice A l0.length c, .int .i64 60] W (FewRet w W (fewO l0 60))) := fun W hW => few10_any w W _ A c l0 60 (ra.fr hW (fun _ _ _ h => h)) ca ma (by omega)
  have HLG : Hid (∀ o ∈ fewO l0 60, o.legs.length ≤ 100000) := fewO_legs
  have hll : (fewO l0 60).length ≤ 60 := by rw [fewO_length]; omega
  have HRE : Hid (readE noRd 0 (⟨#[109, 101]⟩ : ByteArray).data.toList a.data.toList = 0) := by show _ = _; rw [readMe, hgood]; rfl
  have HSa := Lib.hid hs
  generalize hl : fewO l0 60 = l at *
  clear hl hgood hs ra
  go_enter Tryz.func4, Tryz.ntmps4
  go_wp2_with fail
  refine HLV.out.mono ?_
  rintro e w1 ⟨rfl, hf1⟩
  have HF1 := Lib.hid hf1
  clear hf1 HLV
  go_wp2_with fail
  (with_reducible refine (dnew_any _).mono ?_)
  rintro e w2 ⟨d, rfl, hd2, hf2, hn2⟩
  have HF2 : Hid (Fr No w w2) := HF1.out.trans hf2
  have HN2 : Hid (∀ i, d.all noF i → w.heap.size ≤ i) := fun i hi => by have := hn2 i hi; have := HF1.out.size; omega
  have HD2 := Lib.hid hd2
  clear hf2 hn2 hd2
  go_wp2_with fail
  (with_reducible refine (HFW.out _ HF2.out).mono ?_)
  rintro e w3 ⟨A3, c3, rfl, ho3, hc3, hm3, hf3⟩
  have HD3 := Lib.hid (HD2.out.no hf3)
  have HF3 : Hid (Fr No w w3) := HF2.out.trans hf3
  have HO3 := Lib.hid ho3
  have HLT3 : Hid (∀ i, d.all noF i → i < w2.heap.size) := HD2.out.lt
  clear ho3 hf3 HFW
  have HRD := Lib.hid (dread_any ⟨#[109, 101]⟩ a w3 HD3.out (by decide) HSa.out (by omega))
  rw [HRE.out] at HRD
  go_wp2_with fail
  refine HRD.out.mono ?_
  rintro e w4 ⟨rfl, hd4, hf4⟩
  have e1 : readG noRd 0 (⟨#[109, 101]⟩ : ByteArray).data.toList a = setG noRd (⟨#[109, 101]⟩ : ByteArray).data.toList (a, 0) := by unfold readG; rw [if_pos HRE.out]
  have e2 : readK noRd 0 (⟨#[109, 101]⟩ : ByteArray).data.toList a = 1 := by unfold readK; rw [if_pos HRE.out]
  rw [e1, e2] at hd4
  have HD4 := Lib.hid hd4
  have HF4 : Hid (Fr No w w4) := HF3.out.trans' hf4 (fun i hi hlt => by
    have e : i = d.r := hi
    have := HN2.out d.r (.inr (.inr (.inr rfl)))
    omega)
  have HO4 : Hid (∀ W, Fr (d.all noF) w4 W → OdsS w W (fun k => w2.heap.size ≤ k) A3 l) := fun W hW => (HO3.out.fr hf4 (fun k hk _ e => by
    have e : k = d.r := e
    have := HLT3.out d.r (.inr (.inr (.inr rfl)))
    have hk : w2.heap.size ≤ k := hk
    omega)).fr hW (fun k hk _ e => by
    have := HLT3.out k e
    have hk : w2.heap.size ≤ k := hk
    omega)
  have HB4 : Hid (∀ W, Fr (d.all noF) w4 W → Rd W (Lt w.heap.size) 1 B S.length (is_ S)) := fun W hW => (rb.fr (by decide : 0 < 1) HF4.out (fun _ _ _ h => h)).fr (by decide : 0 < 1) hW (fun k hk _ e => by
    have := HN2.out k e
    have hk : k < w.heap.size := hk
    omega)
  have HBEL : Hid (Below w.heap.size w w4) := HF4.out.belowNo
  have hw4 := HF4.out.size
  have hSm : S.length ≤ 9223372036854775807 := by unfold maxLen at mb; omega
  clear hd4 hf4 e1 e2 HRD HD3 HO3 HRE rb
  go_wp2
  go_loopw [9, 10] (fun gv iv wr => OnRel w4 d l a gv iv wr) (fun _ iv _ => l.length - (intOf iv).toNat)
  case atStart => exact ⟨0, noF, 0, Nat.zero_le _, rfl, HD4.out.same (Nat.le_refl _) (fun _ => rfl), Run.start, Nat.zero_le _, Own.nil _ _ _, fun i hi => by simp [Value.ownBlock] at hi⟩
  case round =>
    obtain ⟨j, f, t, hj, rfl, hdk, hrun, ht, hgo, hgn⟩ := hrel
    have hj62 : (j : Int) ≤ 60 := by omega
    by_cases hlt : j < l.length
    · obtain ⟨ad, v, rfl, _, hok, hg, hL, q0, q1, q2, q3, q4, q5, q6, q7, q8, q9⟩ := (HO4.out wr hrun.fr).at_ j hlt
      obtain ⟨Bv, dd, rfl, hd1, hd2⟩ := hL.form
      have HDO := Lib.hid (do_step hlt (by omega) HLG.out hdk HN2.out hw4 hrun hok hL HBEL.out wr (Fr.refl _ _))
      have hmr := HB4.out
      have HRUN := Lib.hid hrun
      obtain ⟨gA, gc, rfl, -, -⟩ := hgo.form
      have hgl := hgo.lt
      have hgx : (evsL bk0 (l.take j) a.data.toList).take t = (evsL bk0 (l.take (j + 1)) a.data.toList).take t := by
        rw [evs_take_next bk0 l j hlt, List.take_append_of_le_length ht]
      have ht5 : t ≤ (evsL bk0 (l.take (j + 1)) a.data.toList).length := by rw [evs_take_next bk0 l j hlt, List.length_append]; omega
      have hl5 : (evsL bk0 (l.take (j + 1)) a.data.toList).length ≤ 60 := by
        have := evsL_len bk0 (l.take (j + 1)) a.data.toList
        rw [List.length_take] at this
        omega
      rw [hgx] at hgo
      have HGO := Lib.hid hgo
      have HGN := Lib.hid hgn
      have HGL := Lib.hid hgl
      clear hdk hok hg hL hrun hgo hgn hgl hgx ht
      have HDX : Hid (Calls Tryz.prog 16 #[.pointer (some ⟨d.p, 0, none⟩), .agg #[.int .i64 l[j].cl, .int .i64 l[j].sq, .int .i64 l[j].kd, .string l[j].acct, .string l[j].peer, .int .i64 l[j].sum, .slice Bv l[j].legs.length dd, .int .i64 l[j].per, .int .i64 l[j].hold, .string l[j].note]] wr fun e w' => (∃ x, e = .returned x) ∧ ∃ f', DkS w' d f' (12 * (j + 1)) (foldB bk0 (l.take (j + 1))) (evsL bk0 (l.take (j + 1))) 1 (setG noRd (⟨#[109, 101]⟩ : ByteArray).data.toList (a, t)) ∧ Run w4 d f' w' ∧ Fr (d.wr f) wr w' ∧ ∀ i, evB d.m f' i → evB d.m f i ∨ wr.heap.size ≤ i) := HDO.out
      clear HDO
      generalize l[j].legs.length = Ln at *
      generalize l[j].cl = cl at *
      generalize l[j].sq = sq at *
      generalize l[j].kd = kd at *
      generalize l[j].acct = acct at *
      generalize l[j].peer = peer at *
      generalize l[j].sum = sum at *
      generalize l[j].per = per at *
      generalize l[j].hold = hold at *
      generalize l[j].note = note at *
      go_wp2_with fail
      (with_reducible refine HDX.out.mono ?_)
      rintro e w5 ⟨⟨x, rfl⟩, f5, hd5, hr5, hf5, hs5⟩
      have HD5 := Lib.hid hd5
      have HR5 := Lib.hid hr5
      have HGN5 : Hid (∀ i, (Value.slice gA t gc).ownBlock = some i → w4.heap.size ≤ i ∧ ¬ d.all f5 i) := fun i hi => by
        obtain ⟨h1, h2⟩ := HGN.out i hi
        have h3 := HGL.out i hi
        refine ⟨h1, fun h => ?_⟩
        rcases h with e | e | e | e
        · exact h2 (.inl e)
        · exact h2 (.inr (.inl e))
        · rcases hs5 i e with h4 | h4
          · exact h2 (.inr (.inr (.inl h4)))
          · omega
        · exact h2 (.inr (.inr (.inr e)))
      have HGO5 := Lib.hid (HGO.out.fr hf5 (fun i hi e => (HGN.out i hi).2 (Dp.wr_all e)))
      have HPL : Hid (∀ m : Int, 0 ≤ m → m ≤ 3 → Calls Tryz.prog 17 #[.pointer (some ⟨d.p, 0, none⟩), .string ⟨#[109, 101]⟩, .int .i64 m] w5 fun e w' => ∃ (v : Value) (x : List Ev), e = .returned (.tuple #[v, .int .i64 0]) ∧ ((evsL bk0 (l.take (j + 1)) a.data.toList).take (t + x.length) = (evsL bk0 (l.take (j + 1)) a.data.toList).take t ++ x ∧ t + x.length ≤ (evsL bk0 (l.take (j + 1)) a.data.toList).length ∧ True) ∧ (x.length : Int) ≤ m ∧ Own w' 65 5 v x.length (evs x) ∧ Fr No w5 w' ∧ ∀ i, v.ownBlock = some i → w5.heap.size ≤ i) := fun m h0 h3 => by
        refine (poll_some ⟨#[109, 101]⟩ m w5 hd5 (by decide) (by unfold In64; omega) (setG_at _ _ _) (by omega)).mono ?_
        rintro e w' ⟨v, rfl, h1, h2, h4⟩
        refine ⟨v, _, rfl, ⟨?_, ?_, trivial⟩, ?_, h1, h2, h4⟩
        · generalize evsL bk0 (l.take (j + 1)) a.data.toList = L at *
          rw [List.take_add]
          congr 1
          rw [List.length_take, List.take_eq_take_iff]
          simp
        · rw [List.length_take, List.length_drop]; omega
        · rw [List.length_take]; omega
      clear hd5 hr5 HDX hf5 hs5 HGO HGN HGL q0 q1 q2 q3 q4 q5 q6 q7 q8 q9
      have hml := (HB4.out w5 HR5.out.fr)
      by_cases hjm : j < S.length
      · obtain ⟨bd, u, rfl, _, hu, hbc⟩ := hml.at_ hjm
        rw [is_get S j hjm] at hu
        injection hu with hu
        subst hu
        generalize S[j] = sv at *
        have hmm : 0 ≤ wrap64 ((IntKind.u64.wrap sv).tmod 4) ∧ wrap64 ((IntKind.u64.wrap sv).tmod 4) ≤ 3 := tmod4 sv
        go_wp2_with fail
        refine (HPL.out _ hmm.1 hmm.2).mono ?_
        rintro e w6 ⟨v6, x6, rfl, hx6, hm6, ho6, hf6, hn6⟩
        obtain ⟨A6, c6, rfl, -, -⟩ := ho6.form
        have HD6 := Lib.hid (HD5.out.no hf6)
        have HR6 := Lib.hid (HR5.out.no hf6)
        have HG6 := Lib.hid (HGO5.out.fr hf6 (fun _ _ h => h))
        have HO6 := Lib.hid ho6
        have HN6 := Lib.hid hn6
        have hs6 := hf6.size
        have HX6 := Lib.hid hx6
        have HM6 := Lib.hid hm6
        have hmx : ¬ (wrap64 ((IntKind.u64.wrap sv).tmod 4) < (x6.length : Int)) := by have := HM6.out; omega
        have hx60 : (x6.length : Int) ≤ 60 := by have := HX6.out.2.1; omega
        have HTK := Lib.hid (take_some ⟨#[109, 101]⟩ (x6.length : Int) w6 HD6.out (by decide) (by omega) (by unfold In64; omega) (setG_at _ _ _) (by omega))
        rw [moveE_ok (by omega) (by have := HX6.out.2.1; omega)] at HTK
        clear ho6 hf6 hn6 hx6 hm6
        go_wp2_with fail
        (with_reducible refine HTK.out.mono ?_)
        rintro e w7 ⟨rfl, hd7, hf7⟩
        have hd7 : DkS w7 d f5 (12 * (j + 1)) (foldB bk0 (l.take (j + 1))) (evsL bk0 (l.take (j + 1))) 1 (setG noRd (⟨#[109, 101]⟩ : ByteArray).data.toList (a, t + x6.length)) := by
          unfold tookG at hd7
          rw [if_pos rfl, setG_setG, Int.toNat_natCast] at hd7
          exact hd7
        have HD7 := Lib.hid hd7
        have HR7 := Lib.hid (HR6.out.take hf7)
        have hdr : ∀ i, d.all f5 i → i < w5.heap.size := HD5.out.lt
        have HG7 := Lib.hid (HG6.out.fr hf7 (fun i hi e => by
          have e : i = d.r := e
          exact (HGN5.out i hi).2 (.inr (.inr (.inr e)))))
        have HO7 := Lib.hid (HO6.out.fr hf7 (fun i hi e => by
          have e : i = d.r := e
          have h1 := HN6.out i hi
          have h2 := hdr d.r (.inr (.inr (.inr rfl)))
          omega))
        have hs7 := hf7.size
        have HSRC : Hid (Src Tryz.prog w7 5 39 (.slice A6 x6.length c6) x6.length (evs x6)) := Src.of_rd HO7.out.rd (evs_ones _) Tryz.underlying39
        have hwl5 : w4.heap.size ≤ w5.heap.size := HR5.out.fr.size
        clear hd7 hf7 HTK HD6 HR6 HG6 HO6
        go_wp2_with (at_builtin; refine wpList_app _ rfl (.tmp 77) (.tmp 78) 39 39 rfl elE HG7.out rfl HSRC.out rfl (by simp only [maxLen]; omega) (by omega) ?_; intro v8 w8 ho8 hf8 hn8)
        have HREL : Hid (OnRel w4 d l a v8 (.int .i64 ((j : Int) + 1)) w8) := by
          refine ⟨j + 1, f5, t + x6.length, hlt, by simp, HD7.out.fr hf8 (fun i hi e => (HGN5.out i e).2 hi), HR7.out.own hf8 (fun i hi => (HGN5.out i hi).1), HX6.out.2.1, ?_, fun i hi => ?_⟩
          · rw [HX6.out.1, evs_append]
            exact ho8
          · rcases hn8 with h1 | h1
            · rw [h1] at hi
              exact HGN5.out i hi
            · rw [h1] at hi
              injection hi with hi
              exact ⟨by omega, fun h => by have := hdr i h; omega⟩
        clear ho8 hf8 hn8
        go_wp2
        go_roundw
        case rel => exact HREL.out
        case measure => simp [intOf]; omega
      · have hmm : (0 : Int) ≤ 2 ∧ (2 : Int) ≤ 3 := by omega
        go_wp2_with fail
        refine (HPL.out _ hmm.1 hmm.2).mono ?_
        rintro e w6 ⟨v6, x6, rfl, hx6, hm6, ho6, hf6, hn6⟩
        obtain ⟨A6, c6, rfl, -, -⟩ := ho6.form
        have HD6 := Lib.hid (HD5.out.no hf6)
        have HR6 := Lib.hid (HR5.out.no hf6)
        have HG6 := Lib.hid (HGO5.out.fr hf6 (fun _ _ h => h))
        have HO6 := Lib.hid ho6
        have HN6 := Lib.hid hn6
        have hs6 := hf6.size
        have HX6 := Lib.hid hx6
        have HM6 := Lib.hid hm6
        have hmx : ¬ (2 < (x6.length : Int)) := by have := HM6.out; omega
        have hx60 : (x6.length : Int) ≤ 60 := by have := HX6.out.2.1; omega
        have HTK := Lib.hid (take_some ⟨#[109, 101]⟩ (x6.length : Int) w6 HD6.out (by decide) (by omega) (by unfold In64; omega) (setG_at _ _ _) (by omega))
        rw [moveE_ok (by omega) (by have := HX6.out.2.1; omega)] at HTK
        clear ho6 hf6 hn6 hx6 hm6
        go_wp2_with fail
        (with_reducible refine HTK.out.mono ?_)
        rintro e w7 ⟨rfl, hd7, hf7⟩
        have hd7 : DkS w7 d f5 (12 * (j + 1)) (foldB bk0 (l.take (j + 1))) (evsL bk0 (l.take (j + 1))) 1 (setG noRd (⟨#[109, 101]⟩ : ByteArray).data.toList (a, t + x6.length)) := by
          unfold tookG at hd7
          rw [if_pos rfl, setG_setG, Int.toNat_natCast] at hd7
          exact hd7
        have HD7 := Lib.hid hd7
        have HR7 := Lib.hid (HR6.out.take hf7)
        have hdr : ∀ i, d.all f5 i → i < w5.heap.size := HD5.out.lt
        have HG7 := Lib.hid (HG6.out.fr hf7 (fun i hi e => by
          have e : i = d.r := e
          exact (HGN5.out i hi).2 (.inr (.inr (.inr e)))))
        have HO7 := Lib.hid (HO6.out.fr hf7 (fun i hi e => by
          have e : i = d.r := e
          have h1 := HN6.out i hi
          have h2 := hdr d.r (.inr (.inr (.inr rfl)))
          omega))
        have hs7 := hf7.size
        have HSRC : Hid (Src Tryz.prog w7 5 39 (.slice A6 x6.length c6) x6.length (evs x6)) := Src.of_rd HO7.out.rd (evs_ones _) Tryz.underlying39
        have hwl5 : w4.heap.size ≤ w5.heap.size := HR5.out.fr.size
        clear hd7 hf7 HTK HD6 HR6 HG6 HO6
        go_wp2_with (at_builtin; refine wpList_app _ rfl (.tmp 77) (.tmp 78) 39 39 rfl elE HG7.out rfl HSRC.out rfl (by simp only [maxLen]; omega) (by omega) ?_; intro v8 w8 ho8 hf8 hn8)
        have HREL : Hid (OnRel w4 d l a v8 (.int .i64 ((j : Int) + 1)) w8) := by
          refine ⟨j + 1, f5, t + x6.length, hlt, by simp, HD7.out.fr hf8 (fun i hi e => (HGN5.out i e).2 hi), HR7.out.own hf8 (fun i hi => (HGN5.out i hi).1), HX6.out.2.1, ?_, fun i hi => ?_⟩
          · rw [HX6.out.1, evs_append]
            exact ho8
          · rcases hn8 with h1 | h1
            · rw [h1] at hi
              exact HGN5.out i hi
            · rw [h1] at hi
              injection hi with hi
              exact ⟨by omega, fun h => by have := hdr i h; omega⟩
        clear ho8 hf8 hn8
        go_wp2
        go_roundw
        case rel => exact HREL.out
        case measure => simp [intOf]; omega
    · obtain rfl : j = l.length := by omega
      rw [List.take_length] at hdk ht hgo
      have hl5 : (evsL bk0 l a.data.toList).length ≤ 60 := by
        have := evsL_len bk0 l a.data.toList
        omega
      obtain ⟨L, hL⟩ : ∃ L, L = evsL bk0 l a.data.toList := ⟨_, rfl⟩
      have HL := Lib.hid hL
      rw [← hL] at ht hgo hl5
      clear hL
      obtain ⟨gA, gc, rfl, -, -⟩ := hgo.form
      have HPW : Hid (∀ W u, DkS W d f (12 * l.length) (foldB bk0 l) (evsL bk0 l) 1 (setG noRd (⟨#[109, 101]⟩ : ByteArray).data.toList (a, u)) → Calls Tryz.prog 17 #[.pointer (some ⟨d.p, 0, none⟩), .string ⟨#[109, 101]⟩, .int .i64 1000] W fun e w' => ∃ v, e = .returned (.tuple #[v, .int .i64 0]) ∧ Own w' 65 5 v (L.drop u).length (evs (L.drop u)) ∧ Fr No W w' ∧ ∀ i, v.ownBlock = some i → W.heap.size ≤ i) := fun W u hW => by
        have h := poll_some ⟨#[109, 101]⟩ 1000 W hW (by decide) (by unfold In64; omega) (setG_at _ _ _) (by rw [← HL.out]; omega)
        rw [← HL.out, List.take_of_length_le (by rw [List.length_drop]; omega)] at h
        exact h
      obtain ⟨D, hD⟩ : ∃ D, D = L.drop t := ⟨_, rfl⟩
      have HPW1 : Hid (∀ W, DkS W d f (12 * l.length) (foldB bk0 l) (evsL bk0 l) 1 (setG noRd (⟨#[109, 101]⟩ : ByteArray).data.toList (a, t)) → Calls Tryz.prog 17 #[.pointer (some ⟨d.p, 0, none⟩), .string ⟨#[109, 101]⟩, .int .i64 1000] W fun e w' => ∃ v, e = .returned (.tuple #[v, .int .i64 0]) ∧ Own w' 65 5 v D.length (evs D) ∧ Fr No W w' ∧ ∀ i, v.ownBlock = some i → W.heap.size ≤ i) := fun W hW => by
        rw [hD]
        exact HPW.out W t hW
      have HPW0 : Hid (∀ W, DkS W d f (12 * l.length) (foldB bk0 l) (evsL bk0 l) 1 (setG noRd (⟨#[109, 101]⟩ : ByteArray).data.toList (a, 0)) → Calls Tryz.prog 17 #[.pointer (some ⟨d.p, 0, none⟩), .string ⟨#[109, 101]⟩, .int .i64 1000] W fun e w' => ∃ v, e = .returned (.tuple #[v, .int .i64 0]) ∧ Own w' 65 5 v L.length (evs L) ∧ Fr No W w' ∧ ∀ i, v.ownBlock = some i → W.heap.size ≤ i) := fun W hW => HPW.out W 0 hW
      have HLT : Hid (t + D.length = L.length ∧ evs (L.take t) ++ evs D = evs L) := by
        rw [hD]
        refine ⟨by rw [List.length_drop]; omega, ?_⟩
        rw [← evs_append, List.take_append_drop]
      have hDl : D.length ≤ 60 := by have := HLT.out.1; omega
      clear hD HPW
      have HOF : Hid (∀ W u, DkS W d f (12 * l.length) (foldB bk0 l) (evsL bk0 l) 1 (setG noRd (⟨#[109, 101]⟩ : ByteArray).data.toList (a, u)) → Calls Tryz.prog 19 #[.pointer (some ⟨d.p, 0, none⟩), .string a] W (RetOwn W 65 5 none L.length (evs L))) := fun W u hW => by
        have h := dof_any a W hW HSa.out (by rw [← HL.out]; omega)
        rw [← HL.out] at h
        exact h
      have HAS : Hid (∀ W F A c, Rd W F 5 A L.length (evs L) → Calls Tryz.prog 12 #[.slice A L.length c] W (RetOwn W 73 5 none L.length (evs L))) := fun W F A c h => as12_any F A c L W h (by omega)
      have HSM : Hid (∀ W F G A B c d, Rd W F 5 A L.length (evs L) → Rd W G 5 B L.length (evs L) → Calls Tryz.prog 11 #[.slice A L.length c, .slice B L.length d] W fun e w' => e = .returned (.bool true) ∧ Fr No W w') := fun W F G A B c d h1 h2 => same12_eq F G A B c d L W h1 h2 (by omega)
      have HBK1 : Hid (∀ W, DkS W d f (12 * l.length) (foldB bk0 l) (evsL bk0 l) 1 (setG noRd (⟨#[109, 101]⟩ : ByteArray).data.toList (a, t)) → Calls Tryz.prog 21 #[.pointer (some ⟨d.p, 0, none⟩), .string ⟨#[109, 101]⟩, .int .i64 (t : Int)] W fun e w' => e = .returned (.int .i64 0) ∧ DkS w' d f (12 * l.length) (foldB bk0 l) (evsL bk0 l) 1 (setG noRd (⟨#[109, 101]⟩ : ByteArray).data.toList (a, 0)) ∧ Fr (At1 d.r) W w') := fun W hW => by
        have h := back_some ⟨#[109, 101]⟩ (t : Int) W hW (by decide) (by omega) (by unfold In64; omega) (setG_at _ _ _) (by rw [← HL.out]; omega)
        rw [moveE_ok (by omega) (by omega)] at h
        refine h.mono ?_
        rintro e w' ⟨h1, h2, h3⟩
        refine ⟨h1, ?_, h3⟩
        unfold tookG at h2
        rw [if_pos rfl, setG_setG, Int.toNat_natCast, Nat.sub_self] at h2
        exact h2
      have HBK2 : Hid (∀ W, DkS W d f (12 * l.length) (foldB bk0 l) (evsL bk0 l) 1 (setG noRd (⟨#[109, 101]⟩ : ByteArray).data.toList (a, 0)) → Calls Tryz.prog 21 #[.pointer (some ⟨d.p, 0, none⟩), .string ⟨#[109, 101]⟩, .int .i64 1] W fun e w' => e = .returned (.int .i64 13) ∧ DkS w' d f (12 * l.length) (foldB bk0 l) (evsL bk0 l) 1 (setG noRd (⟨#[109, 101]⟩ : ByteArray).data.toList (a, 0)) ∧ Fr (At1 d.r) W w') := fun W hW => by
        have h := back_some ⟨#[109, 101]⟩ 1 W hW (by decide) (by omega) (by unfold In64; omega) (setG_at _ _ _) (by rw [← HL.out]; omega)
        rw [moveE_bad (by omega)] at h
        exact h
      have HTK : Hid (∀ W, DkS W d f (12 * l.length) (foldB bk0 l) (evsL bk0 l) 1 (setG noRd (⟨#[109, 101]⟩ : ByteArray).data.toList (a, 0)) → Calls Tryz.prog 18 #[.pointer (some ⟨d.p, 0, none⟩), .string ⟨#[109, 101]⟩, .int .i64 ((L.length : Int) + 1)] W fun e w' => e = .returned (.int .i64 13) ∧ Fr (At1 d.r) W w') := fun W hW => by
        have h := take_some ⟨#[109, 101]⟩ ((L.length : Int) + 1) W hW (by decide) (by omega) (by unfold In64; omega) (setG_at _ _ _) (by rw [← HL.out]; omega)
        rw [← HL.out, moveE_bad (by omega)] at h
        exact h.mono fun e w' h => ⟨h.1, h.2.2⟩
      have hdr : ∀ i, d.all f i → i < wr.heap.size := hdk.lt
      have HDR := Lib.hid hdr
      have HD := Lib.hid hdk
      have HRUN := Lib.hid hrun
      have HGO := Lib.hid hgo
      have HGN := Lib.hid hgn
      have HGL := Lib.hid hgo.lt
      clear hdk hrun hgo hgn hdr
      go_wp2_with fail
      (with_reducible refine (HPW1.out _ HD.out).mono ?_)
      rintro e w6 ⟨v6, rfl, ho6, hf6, hn6⟩
      obtain ⟨A6, c6, rfl, -, -⟩ := ho6.form
      have HO6 := Lib.hid ho6
      have HF6 := Lib.hid hf6
      have HN6 := Lib.hid hn6
      clear ho6 hf6 hn6
      go_wp2_with fail
      (with_reducible refine (HOF.out _ t (HD.out.no HF6.out)).mono ?_)
      rintro e w7 ⟨v7, rfl, ho7, hf7, hn7⟩
      obtain ⟨A7, c7, rfl, -, -⟩ := ho7.form
      have HO7 := Lib.hid ho7
      have HF7 : Hid (Fr No wr w7) := HF6.out.trans (fr_at_none hf7)
      have HO67 := Lib.hid (HO6.out.fr (fr_at_none hf7) (fun _ _ h => h))
      have HN7 : Hid (∀ i, (Value.slice A7 L.length c7).ownBlock = some i → wr.heap.size ≤ i) := fun i hi => by
        have h1 := newer_none hn7 i hi
        have h2 := HF6.out.size
        omega
      clear ho7 hf7 hn7 HO6 HF6
      have HAT := Lib.hid (at_some ⟨#[109, 101]⟩ w7 (HD.out.no HF7.out) (by decide) (setG_at _ _ _))
      go_wp2_with fail
      (with_reducible refine HAT.out.mono ?_)
      rintro e w8 ⟨rfl, hf8⟩
      have HF8 : Hid (Fr No wr w8) := HF7.out.trans hf8
      have HO8 := Lib.hid (HO67.out.fr hf8 (fun _ _ h => h))
      have HO78 := Lib.hid (HO7.out.fr hf8 (fun _ _ h => h))
      have HG8 := Lib.hid (HGO.out.fr HF8.out (fun _ _ h => h))
      have HSRC : Hid (Src Tryz.prog w8 5 39 (.slice A6 D.length c6) D.length (evs D)) := Src.of_rd HO8.out.rd (evs_ones _) Tryz.underlying39
      clear hf8 HAT HO67 HO7 HO8
      go_wp2_with (at_builtin; refine wpList_appW _ (by rfl) (.tmp 109) (.tmp 110) 39 39 rfl elE HG8.out rfl HSRC.out rfl (by simp only [maxLen]; omega) (by omega) ?_; intro v9 w9 ho9 hf9 hn9; rw [HLT.out.1, HLT.out.2] at ho9; obtain ⟨A9, c9, rfl, -, -⟩ := ho9.form; have HO9 := Lib.hid ho9; have HD9 := Lib.hid ((HD.out.no HF8.out).fr hf9 (fun i hi e => (HGN.out i e).2 hi)); have HA9 := Lib.hid (HO78.out.fr hf9 (fun i hi e => (by have h1 := HN7.out i hi; have h2 := HGL.out i e; omega))); have HR9 := Lib.hid ((HRUN.out.no HF8.out).own hf9 (fun i hi => (HGN.out i hi).1)); clear ho9 hf9 hn9)
      (with_reducible refine (HAS.out _ _ _ _ HO9.out.rd).mono ?_)
      rintro e w10 ⟨v10, rfl, ho10, hf10, hn10⟩
      obtain ⟨A10, c10, rfl, -, -⟩ := ho10.form
      have HA10 := Lib.hid (HA9.out.fr (fr_at_none hf10) (fun _ _ h => h))
      have HO10 := Lib.hid ho10
      have HF10 := Lib.hid (fr_at_none hf10)
      clear ho10 hf10 hn10
      go_wp2_with fail
      (with_reducible refine (HAS.out _ _ _ _ HA10.out.rd).mono ?_)
      rintro e w11 ⟨v11, rfl, ho11, hf11, hn11⟩
      obtain ⟨A11, c11, rfl, -, -⟩ := ho11.form
      have HO11 := Lib.hid ho11
      have HB11 := Lib.hid (HO10.out.fr (fr_at_none hf11) (fun _ _ h => h))
      have HF11 : Hid (Fr No w9 w11) := HF10.out.trans (fr_at_none hf11)
      clear ho11 hf11 hn11
      go_wp2_with fail
      (with_reducible refine (HSM.out _ _ _ _ _ _ _ HB11.out.rd HO11.out.rd).mono ?_)
      rintro e w12 ⟨rfl, hf12⟩
      have HF12 : Hid (Fr No w9 w12) := HF11.out.trans hf12
      clear hf12 HB11 HO11 HO10 HF10 HF11
      go_wp2_with fail
      (with_reducible refine (HBK1.out _ (HD9.out.no HF12.out)).mono ?_)
      rintro e w13 ⟨rfl, hd13, hf13⟩
      have HD13 := Lib.hid hd13
      have HF13 : Hid (Fr (At1 d.r) w9 w13) := (HF12.out.mono fun _ _ h => False.elim h).trans hf13
      clear hd13 hf13
      go_wp2_with fail
      (with_reducible refine (HBK2.out _ HD13.out).mono ?_)
      rintro e w14 ⟨rfl, hd14, hf14⟩
      have HD14 := Lib.hid hd14
      have HF14 : Hid (Fr (At1 d.r) w9 w14) := HF13.out.trans hf14
      clear hd14 hf14 HD13
      go_wp2_with fail
      (with_reducible refine (HPW0.out _ HD14.out).mono ?_)
      rintro e w15 ⟨v15, rfl, ho15, hf15, hn15⟩
      obtain ⟨A15, c15, rfl, -, -⟩ := ho15.form
      have HF15 : Hid (Fr (At1 d.r) w9 w15) := HF14.out.trans (hf15.mono fun _ _ h => False.elim h)
      have HD15 := Lib.hid (HD14.out.no hf15)
      have HO15 := Lib.hid ho15
      have HA15 := Lib.hid (HA9.out.fr HF15.out (fun i hi e => by
        have h1 := HN7.out i hi
        have h2 := HDR.out d.r (.inr (.inr (.inr rfl)))
        have e : i = d.r := e
        omega))
      clear ho15 hf15 hn15 HD14
      go_wp2_with fail
      (with_reducible refine (HAS.out _ _ _ _ HO15.out.rd).mono ?_)
      rintro e w16 ⟨v16, rfl, ho16, hf16, hn16⟩
      obtain ⟨A16, c16, rfl, -, -⟩ := ho16.form
      have HA16 := Lib.hid (HA15.out.fr (fr_at_none hf16) (fun _ _ h => h))
      have HO16 := Lib.hid ho16
      have HF16 := Lib.hid (fr_at_none hf16)
      clear ho16 hf16 hn16
      go_wp2_with fail
      (with_reducible refine (HAS.out _ _ _ _ HA16.out.rd).mono ?_)
      rintro e w17 ⟨v17, rfl, ho17, hf17, hn17⟩
      obtain ⟨A17, c17, rfl, -, -⟩ := ho17.form
      have HO17 := Lib.hid ho17
      have HB17 := Lib.hid (HO16.out.fr (fr_at_none hf17) (fun _ _ h => h))
      have HF17 : Hid (Fr No w15 w17) := HF16.out.trans (fr_at_none hf17)
      clear ho17 hf17 hn17
      go_wp2_with fail
      (with_reducible refine (HSM.out _ _ _ _ _ _ _ HB17.out.rd HO17.out.rd).mono ?_)
      rintro e w18 ⟨rfl, hf18⟩
      have HF18 : Hid (Fr No w15 w18) := HF17.out.trans hf18
      clear hf18 HB17 HO17 HO16 HF16 HF17
      go_wp2_with fail
      (with_reducible refine (HTK.out _ (HD15.out.no HF18.out)).mono ?_)
      rintro e w19 ⟨rfl, hf19⟩
      have HFIN : Hid (Run w4 d f w19) := (HR9.out.take HF15.out |>.no HF18.out).take hf19
      clear hf19
      go_wp2
      go_ret
      exact ⟨rfl, Fr.below_trans HBEL.out HFIN.out.fr hw4 (fun i hi h => by have := HN2.out i h; omega)⟩
end Go.Proofs.YtlanhclgbkhdlaaGreat

namespace Go.Proofs.YtlanhclgbkhdlaaGreat
open Go.RowKit Go.My Go.Maps
set_option linter.unusedSimpArgs false
set_option linter.unusedVariables false
theorem streamOnce_walk (A : Option Addr) (c : Nat) (l0 : List Od) (B : Option Addr) (dB : Nat) (S : List Int) (a : ByteArray) (w : World) (ra : OdsS w w (Lt w.heap.size) A l0) (ca : l0.length ≤ c) (ma : c ≤ maxLen) (rb : Rd w (Lt w.heap.size) 1 B S.length (is_ S)) (cb : S.length ≤ dB) (mb : dB ≤ maxLen) (hI : I64s S) (hs : a.size ≤ maxLen) :
    Calls Tryz.prog 4 #[.slice A l0.length c, .slice B S.length dB, .string a] w fun e w' => e = .returned (.bool true) ∧ Below w.heap.size w w' := by
  cases h : nameB a.data.toList with
  | false => exact once_bad A c l0 B dB S a w ra ca ma rb cb mb hI hs h
  | true => exact once_good A c l0 B dB S a w ra ca ma rb cb mb hI hs h
end Go.Proofs.YtlanhclgbkhdlaaGreat

namespace Go.Proofs.YtlanhclgbkhdlaaGreat
open Go.RowKit Go.My Go.Maps
set_option linter.unusedSimpArgs false
set_option linter.unusedVariables false
attribute [local go_sem ↓] Go.wp_at_zero Go.wp_at_succ

set_option maxRecDepth 100000 in
theorem ddo_nil (w : World) : Calls Tryz.prog 16 #[.pointer none, .agg #[.int .i64 0, .int .i64 0, .int .i64 0, .string ⟨#[]⟩, .string ⟨#[]⟩, .int .i64 0, .slice none 0 0, .int .i64 0, .int .i64 0, .string ⟨#[]⟩]] w fun e w' => e = .returned (.agg #[.int .i64 1, .int .i64 0, .int .i64 0, .int .i64 0]) ∧ Fr No w w' := by
  have hbr := Blk.new (w.alloc (.cells #[.int .i64 0, .int .i64 0, .int .i64 0, .string ⟨#[]⟩, .string ⟨#[]⟩, .int .i64 0, .slice none 0 0, .int .i64 0, .int .i64 0, .string ⟨#[]⟩] 31)) 47 #[.int .i64 1, .int .i64 0, .int .i64 0, .int .i64 0]
  rw [World.size_alloc] at hbr
  have d0 := hbr.cell 0
  have d1 := hbr.cell 1
  have d2 := hbr.cell 2
  have d3 := hbr.cell 3
  simp only [List.getElem?_toArray, List.getElem?_cons_zero, List.getElem?_cons_succ] at d0 d1 d2 d3
  clear hbr
  go_enter Tryz.func16, Tryz.ntmps16
  go_wp2
  refine bodyPost_ret (v := .agg #[.int .i64 1, .int .i64 0, .int .i64 0, .int .i64 0]) (by simp [results, Tryz.results16, go_sem, d0, d1, d2, d3]) rfl ?_
  exact ⟨rfl, ((Fr.refl _ _).alloc _).alloc _⟩
def LaRel (w5 : World) (S : List Ac) (an : List UInt8) (iv : Value) (wr : World) : Prop := ∃ i : Nat, i ≤ S.length ∧ iv = .int .i64 i ∧ (∀ j (h : j < S.length), j < i → S[j].name ≠ an) ∧ Fr No w5 wr
def LkRel (wo : World) (n : Nat) (kv : Value) (wr : World) : Prop := ∃ k : Nat, k + 1 ≤ n ∧ kv = .int .i64 ((k : Int) + 1) ∧ Fr No wo wr
def evN (E : List Ev) (k : Nat) : Ev := E.getD k ⟨0, 0, 0, 0, 0⟩
theorem evN_at {E : List Ev} {k : Nat} (h : k < E.length) : evN E k = E[k] := by unfold evN; simp [h]
theorem evN_cells {w : World} {F : Nat → Prop} {ed : Addr} {E : List Ev} (h : Rd w F 5 (some ed) E.length (evs E)) (k : Nat) (hk : k < E.length) :
    w.cell? (ed.add (k * 5)) = some (.int .i64 (evN E k).cl) ∧ w.cell? ⟨(ed.add (k * 5)).block, (ed.add (k * 5)).off + 1, none⟩ = some (.int .i64 (evN E k).sq) ∧
      w.cell? ⟨(ed.add (k * 5)).block, (ed.add (k * 5)).off + 2, none⟩ = some (.int .i64 (evN E k).kd) ∧ w.cell? ⟨(ed.add (k * 5)).block, (ed.add (k * 5)).off + 3, none⟩ = some (.int .i64 (evN E k).hv) ∧
      w.cell? ⟨(ed.add (k * 5)).block, (ed.add (k * 5)).off + 4, none⟩ = some (.int .i64 (evN E k).st) := by
  obtain ⟨ad, e, _, r⟩ := ev_at h k hk
  injection e with e
  subst e
  rw [evN_at hk]
  exact r
set_option maxRecDepth 100000 in
set_option maxHeartbeats 4000000 in
theorem streamLast_walk (A : Option Addr) (c : Nat) (l0 : List Od) (a : ByteArray) (w : World) (ra : OdsS w w (Lt w.heap.size) A l0) (ca : l0.length ≤ c) (ma : c ≤ maxLen) (hs : a.size ≤ maxLen) :
    Calls Tryz.prog 5 #[.slice A l0.length c, .string a] w fun e w' => e = .returned (.bool true) ∧ Below w.heap.size w w' := by
  have HLV := Lib.hid (lives12 w)
  have HFW : Hid (∀ W, Fr No w W → Calls Tryz.prog 8 #[.slice A l0.length c, .int .i64 60] W (FewRet w W (fewO l0 60))) := fun W hW => few10_any w W _ A c l0 60 (ra.fr hW (fun _ _ _ h => h)) ca ma (by omega)
  have HLG : Hid (∀ o ∈ fewO l0 60, o.legs.length ≤ 100000) := fewO_legs
  have hll : (fewO l0 60).length ≤ 60 := by rw [fewO_length]; omega
  have HSa := Lib.hid hs
  generalize hl : fewO l0 60 = l at *
  clear hl hs ra
  have HEV : Hid (∀ W A c, OdsS w W (fun k => w.heap.size ≤ k) A l → Fr No w W → Calls Tryz.prog 13 #[.slice A l.length c, .string a] W (RetOwn W 65 5 none (evsL bk0 l a.data.toList).length (evs (evsL bk0 l a.data.toList)))) := fun W A c h hW => sevents_any w W _ A c l a h hW.belowNo (by omega) HLG.out HSa.out
  have HFO : Hid (∀ W A c, OdsS w W (fun k => w.heap.size ≤ k) A l → Fr No w W → Calls Tryz.prog 22 #[.slice A l.length c] W (FoldRet W l)) := fun W A c h hW => fold_any w W _ A c l h hW.belowNo (by omega)
  have HIS : Hid (∀ o ∈ l, o.ok → True) := fun _ _ _ => trivial
  go_enter Tryz.func5, Tryz.ntmps5
  go_wp2_with fail
  refine HLV.out.mono ?_
  rintro e w1 ⟨rfl, hf1⟩
  have HF1 := Lib.hid hf1
  clear hf1 HLV
  go_wp2_with fail
  (with_reducible refine (HFW.out _ HF1.out).mono ?_)
  rintro e w2 ⟨A2, c2, rfl, ho2, hc2, hm2, hf2⟩
  have HF2 : Hid (Fr No w w2) := HF1.out.trans hf2
  have HO2 : Hid (OdsS w w2 (fun k => w.heap.size ≤ k) A2 l) := ho2.more fun k hk => by
    have h1 := HF1.out.size
    have hk : w1.heap.size ≤ k := hk
    show w.heap.size ≤ k
    omega
  have hev := evOf_all HO2.out.ok a.data.toList
  have HINV := Lib.hid (fold_inv bki0 l HO2.out.ok)
  clear ho2 hf2 HFW
  go_wp2_with fail
  (with_reducible refine (HEV.out _ _ _ HO2.out HF2.out).mono ?_)
  rintro e w3 ⟨v3, rfl, ho3, hf3', -⟩
  have hf3 := fr_at_none hf3'
  have HF3 : Hid (Fr No w w3) := HF2.out.trans hf3
  have HO3 := Lib.hid ho3
  have HOD3 := Lib.hid (HO2.out.fr hf3 (fun _ _ _ h => h))
  have hel : (evsL bk0 l a.data.toList).length ≤ 60 := by have := evsL_len bk0 l a.data.toList; omega
  clear ho3 hf3' hf3 HEV HO2
  generalize evsL bk0 l a.data.toList = E at *
  obtain ⟨A3, c3, rfl, -, -⟩ := HO3.out.form
  go_wp2_with fail
  refine (HFO.out _ _ _ HOD3.out HF3.out).mono ?_
  rintro e w4 ⟨A4, c4, q, rfl, -, hb4, hf4, -, -, -⟩
  have HF4 : Hid (Fr No w w4) := HF3.out.trans hf4
  have HO4 := Lib.hid (HO3.out.fr hf4 (fun _ _ h => h))
  have HB4 := Lib.hid hb4
  clear hb4 hf4 HO3 HOD3 HFO HF3
  generalize hbb : foldB bk0 l = b at *
  clear hbb
  go_wp2_with fail
  (with_reducible refine (baccts_any q b _ HB4.out).mono ?_)
  rintro e w5 ⟨v5, rfl, ho5, hf5', -⟩
  obtain ⟨A5, c5, rfl, -, -⟩ := ho5.form
  have hf5 := fr_at_none hf5'
  have HF5 : Hid (Fr No w w5) := HF4.out.trans hf5
  have HE5 := Lib.hid (HO4.out.fr hf5 (fun _ _ h => h))
  have HA5 := Lib.hid ho5
  have hsl : b.S.length ≤ 12 := HINV.out.st.kp.inv.len
  have HRISE : Hid (Rise b.S) := HINV.out.st.kp.inv.rise
  clear ho5 hf5' hf5 HB4 HO4 HF4
  have HEV := Lib.hid hev
  clear hev
  generalize b.S = T at *
  go_wp2
  go_loopw [9] (fun iv wr => LaRel w5 T a.data.toList iv wr) (fun iv _ => T.length - (intOf iv).toNat)
  case atStart => exact ⟨0, Nat.zero_le _, rfl, fun j _ h => absurd h (by omega), Fr.refl _ _⟩
  case round =>
    obtain ⟨i, hi, rfl, hno, hfr⟩ := hrel
    by_cases hlt : i < T.length
    · obtain ⟨ad, rfl, _, p0, p1, p2, p3⟩ := acs_at ((HA5.out.fr hfr (fun _ _ h => h)).rd) i hlt
      by_cases heq : T[i].name = a.data.toList
      · have hg := getA_mem HRISE.out (List.getElem_mem hlt)
        rw [heq] at hg
        have hev := HEV.out
        unfold EvOf at hev
        rw [hg] at hev
        simp only at hev
        obtain ⟨hpos, hhv, hst, hop, hgo⟩ := hev
        have hl1 : E.length - 1 < E.length := by omega
        rw [← evN_at hl1] at hhv hst
        rw [← evN_at hpos] at hop
        have HGO : Hid (∀ k, k + 1 < E.length → EvGo (evN E k) (evN E (k + 1))) := fun k hk => by rw [evN_at (by omega), evN_at hk]; exact hgo k hk
        obtain ⟨ed, hed⟩ : ∃ ed, A3 = some ed := by
          obtain ⟨ed, h, _⟩ := (HE5.out.rd).2 hpos
          exact ⟨ed, h⟩
        subst hed
        have HAT : Hid (∀ k W, k < E.length → Fr No w5 W → _) := fun k W hk hW => evN_cells ((HE5.out.fr hW (fun _ _ h => h)).rd) k hk
        clear HEV hgo
        generalize evN E = X at *
        generalize E.length = nE at *
        obtain ⟨r0, r1, r2, r3, r4⟩ := HAT.out (nE - 1) wr hl1 hfr
        obtain ⟨s0, s1, s2, s3, s4⟩ := HAT.out 0 wr hpos hfr
        have haa : (⟨a.data.toList.toArray⟩ : ByteArray) = a := rfl
        rw [heq, haa] at p0
        rw [hhv] at r3
        rw [hst] at r4
        rw [hop] at s2
        obtain ⟨mE, hmE⟩ : ∃ mE, nE - 1 = mE := ⟨_, rfl⟩
        rw [hmE] at r0 r1 r2 r3 r4
        have hme : (mE : Int) = (nE : Int) - 1 := by omega
        have hw1 : wrap64 ((nE : Int) - 1) = (mE : Int) := by unfold wrap64; omega
        have hw2 : IntKind.i64.wrap ((nE : Int) - 1) = (mE : Int) := by rw [← hme]; exact IntWalk.i64_in _ (by omega)
        have hz1 : ((nE : Int) == 0) = false := beq_eq_false_iff_ne.2 (by omega)
        have hz2 : (nE == 0) = false := beq_eq_false_iff_ne.2 (by omega)
        have hb1 : (mE : Int) < (nE : Int) := by omega
        have hb2 : (0 : Int) < (nE : Int) := by omega
        have hb3 : mE < nE := by omega
        have h00 : ed.add 0 = ed := by unfold Addr.add; simp
        simp only [Nat.zero_mul, h00] at s0 s1 s2 s3 s4
        generalize T[i].hv = hv at *
        generalize T[i].st = st at *
        have HFR := Lib.hid hfr
        have HMP := Lib.hid hme
        clear hhv hst hop hno heq hg hme hmE hl1 hfr HE5 HA5
        go_upto_region 11 with (fail)
        go_quiet (fail)
        have HF11 : Hid (Fr No w5 (wr.drewN nq)) := HFR.out.drewN nq
        clear HFR r0 r1 r2 r3 r4 s0 s1 s2 s3 s4 p0 p1 p2 p3
        generalize wr.drewN nq = wo at *
        go_wp2
        go_loopw [10] (fun kv wr => LkRel wo nE kv wr) (fun kv _ => nE - (intOf kv).toNat)
        case atStart => exact ⟨0, by omega, rfl, Fr.refl _ _⟩
        case round =>
          obtain ⟨j, hj, rfl, hfr⟩ := hrel
          have HFj : Hid (Fr No w5 wr) := HF11.out.trans hfr
          by_cases hlt2 : j + 1 < nE
          · obtain ⟨r0, r1, r2, r3, r4⟩ := HAT.out (j + 1) wr hlt2 HFj.out
            obtain ⟨s0, s1, s2, s3, s4⟩ := HAT.out j wr (by omega) HFj.out
            obtain ⟨g1, g2, g3, g4⟩ := HGO.out j hlt2
            generalize (X j).hv = hv0 at *
            generalize (X j).st = st0 at *
            generalize (X (j + 1)).hv = hv1 at *
            generalize (X (j + 1)).st = st1 at *
            generalize (X (j + 1)).kd = kd at *
            have ht1 : ((j : Int) + 1).toNat = j + 1 := by omega
            have hw3 : IntKind.i64.wrap ((j : Int) + 1 - 1) = (j : Int) := by rw [show (j : Int) + 1 - 1 = (j : Int) by omega]; exact IntWalk.i64_in _ (by omega)
            have hw4 : IntKind.i64.wrap (j : Int) = (j : Int) := IntWalk.i64_in _ (by omega)
            have hb4 : (j : Int) + 1 < (nE : Int) := by omega
            have hb5 : (j : Int) < (nE : Int) := by omega
            have k1 : (kd == 1) = false := beq_eq_false_iff_ne.2 g2
            have k6 : (kd == 6) = false := beq_eq_false_iff_ne.2 g3
            clear hj hw1 hw2 hz1 hz2 hb1 hb2 hb3 hpos
            have hhv : kd ≠ 2 → kd ≠ 4 → hv1 = hv0 := fun h2 h4 => by
              apply Classical.byContradiction
              intro hne
              rcases g1 hne with h | h
              · exact h2 h
              · exact h4 h
            have hst : kd ≠ 3 → decide (st0 < st1) = false := fun h3 => decide_eq_false fun h => h3 (g4 h)
            clear g1 g2 g3 g4
            by_cases hk2 : kd = 2
            · subst hk2
              have hd := hst (by decide)
              clear hst hhv k1 k6
              by_cases hv : hv1 = hv0
              · subst hv
                go_wp2
                go_upto_region 17 with (fail)
                go_quiet (fail)
                go_wp2
                go_roundw
                case rel => exact ⟨j + 1, by omega, by go_num, hfr.drewN _⟩
                case measure => simp [intOf]; omega
              · have hv2 : (hv1 != hv0) = true := bne_iff_ne.2 hv
                go_wp2
                go_upto_region 17 with (fail)
                go_quiet (fail)
                go_wp2
                go_roundw
                case rel => exact ⟨j + 1, by omega, by go_num, hfr.drewN _⟩
                case measure => simp [intOf]; omega
            have b2 : (kd == 2) = false := beq_eq_false_iff_ne.2 hk2
            by_cases hk4 : kd = 4
            · subst hk4
              have hd := hst (by decide)
              clear hst hhv k1 k6 b2
              by_cases hv : hv1 = hv0
              · subst hv
                go_wp2
                go_upto_region 17 with (fail)
                go_quiet (fail)
                go_wp2
                go_roundw
                case rel => exact ⟨j + 1, by omega, by go_num, hfr.drewN _⟩
                case measure => simp [intOf]; omega
              · have hv2 : (hv1 != hv0) = true := bne_iff_ne.2 hv
                go_wp2
                go_upto_region 17 with (fail)
                go_quiet (fail)
                go_wp2
                go_roundw
                case rel => exact ⟨j + 1, by omega, by go_num, hfr.drewN _⟩
                case measure => simp [intOf]; omega
            have b4 : (kd == 4) = false := beq_eq_false_iff_ne.2 hk4
            obtain rfl := hhv hk2 hk4
            by_cases hk3 : kd = 3
            · subst hk3
              clear hst hhv k1 k6 b2 b4
              cases hd : decide (st0 < st1) with
              | false =>
                go_wp2
                go_upto_region 17 with (fail)
                go_quiet (fail)
                go_wp2
                go_roundw
                case rel => exact ⟨j + 1, by omega, by go_num, hfr.drewN _⟩
                case measure => simp [intOf]; omega
              | true =>
                go_wp2
                go_upto_region 17 with (fail)
                go_quiet (fail)
                go_wp2
                go_roundw
                case rel => exact ⟨j + 1, by omega, by go_num, hfr.drewN _⟩
                case measure => simp [intOf]; omega
            · have hd := hst hk3
              clear hst hhv
              go_wp2
              go_upto_region 17 with (fail)
              go_quiet (fail)
              go_wp2
              go_roundw
              case rel => exact ⟨j + 1, by omega, by go_num, hfr.drewN _⟩
              case measure => simp [intOf]; omega
          · have hjn : (nE : Int) ≤ (j : Int) + 1 := by omega
            have hjn2 : ¬ ((j : Int) + 1 < (nE : Int)) := by omega
            clear hw1 hw2 hz1 hz2 hb1 hb2 hb3
            go_wp2
            go_ret
            exact ⟨rfl, (HF5.out.trans HFj.out).belowNo⟩
      · have hba : ¬ (⟨T[i].name.toArray⟩ : ByteArray) = a := fun e => heq (by rw [← e])
        have e2 : (T[i].name != a.data.toList) = true := bne_iff_ne.2 heq
        have e3 : (T[i].name == a.data.toList) = false := beq_eq_false_iff_ne.2 heq
        have e4 : (T[i].name != a.toList) = true := by rw [ByteArray.toList_eq]; exact e2
        have e5 : (T[i].name == a.toList) = false := by rw [ByteArray.toList_eq]; exact e3
        have HNX : Hid (∀ j (h : j < T.length), j < i + 1 → T[j].name ≠ a.data.toList) := fun j h hj => by
          by_cases e : j = i
          · subst e; exact heq
          · exact hno j h (by omega)
        have HFR := Lib.hid hfr
        clear hno hfr heq
        generalize T[i].name = nm at *
        go_wp2
        go_roundw
        case rel => exact ⟨i + 1, by omega, by go_num, HNX.out, HFR.out⟩
        case measure => simp [intOf]; omega
    · obtain rfl : i = T.length := by omega
      have hg : getA T a.data.toList = none := by
        unfold getA
        rw [List.find?_eq_none]
        intro x hx
        obtain ⟨j, hj, rfl⟩ := List.getElem_of_mem hx
        have := hno j hj hj
        simpa using this
      have hev := HEV.out
      unfold EvOf at hev
      rw [hg] at hev
      simp only at hev
      subst hev
      have hfe := fun (a b c d : Value) (W : World) => (by kernel_rfl : (Instr.field 47 (.agg #[a, b, c, d]) 0).run Tryz.prog W = .ok a W)
      have HFR := Lib.hid hfr
      clear hno hfr HEV hg
      go_wp2_with fail
      (with_reducible refine (ddo_nil _).mono ?_)
      rintro e w6 ⟨rfl, hf6⟩
      have HF6 : Hid (Fr No w w6) := (HF5.out.trans HFR.out).trans hf6
      clear hf6
      go_wp2_with fail
      (with_reducible refine (dread_nil _ _ _).mono ?_)
      rintro e w7 ⟨rfl, rfl⟩
      go_wp2_with fail
      (with_reducible refine (dof_nil _ _).mono ?_)
      rintro e w8 ⟨rfl, rfl⟩
      go_wp2_with fail
      (with_reducible refine (dbook_nil _).mono ?_)
      rintro e w9 ⟨rfl, rfl⟩
      go_wp2
      go_ret
      exact ⟨rfl, HF6.out.belowNo⟩
end Go.Proofs.YtlanhclgbkhdlaaGreat
