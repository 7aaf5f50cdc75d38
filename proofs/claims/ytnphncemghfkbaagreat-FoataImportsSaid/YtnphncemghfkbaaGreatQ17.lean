/- foata.Import. foata.Import: its walk. foata.number, foata.Export. The document's own Same over bytes. What the laws on steps call first. -/
import Derived.Test.YtnphncemghfkbaaGreatQ16
import Derived.Test.YtnphncemghfkbaaGreatQ12
import Derived.Test.YtnphncemghfkbaaGreatQ15
namespace Go.Proofs.YtnphncemghfkbaaGreat
open Go.RowKit Go.My Go.Maps Go.WideMaps
set_option linter.unusedSimpArgs false
set_option linter.unusedVariables false
attribute [local go_sem ↓] Go.wp_at_zero Go.wp_at_succ

/-- rows that have been read, in a row of the call's own -/
def RowsT (w : World) (sv : Value) (S : List (List Od)) : Prop := ∃ vs, Own w 22 1 sv S.length vs ∧ ∀ (j : Nat) (v : Value) (s : List Od), vs[j]? = some v → S[j]? = some s → RowT w v s
theorem RowsT.nil (w : World) : RowsT w (.slice none 0 0) [] := ⟨[], Own.nil _ _ _, fun j v s h => by simp at h⟩
theorem RowsT.form {w : World} {sv : Value} {S : List (List Od)} (h : RowsT w sv S) : ∃ A c, sv = .slice A S.length c ∧ S.length ≤ c ∧ c ≤ maxLen := by
  obtain ⟨vs, ho, _⟩ := h
  exact ho.form
theorem RowsT.other {w w' : World} {sv : Value} {S : List (List Od)} (h : RowsT w sv S) {p : Nat} {t : TypeId} {cs : Array Value} (hp : Blk w p t cs) (h1 : t ≠ 92) (h2 : t ≠ 47) (h3 : t ≠ 22) (hf : Fr (At1 p) w w') : RowsT w' sv S := by
  obtain ⟨vs, ho, hE⟩ := h
  refine ⟨vs, ho.fr hf (fun k hk hS => ?_), fun j v s hv hs => (hE j v s hv hs).other hp h1 h2 hf⟩
  obtain ⟨cur, hc⟩ := ho.blk k hk
  rw [show k = p from hS] at hc
  exact hp.ne_ hc h3 rfl
theorem RowsT.no {w w' : World} {sv : Value} {S : List (List Od)} (h : RowsT w sv S) (hf : Fr No w w') : RowsT w' sv S := by
  obtain ⟨vs, ho, hE⟩ := h
  exact ⟨vs, ho.fr hf (fun _ _ h => h), fun j v s hv hs => (hE j v s hv hs).no hf⟩
theorem RowsT.sts {w : World} {A : Option Addr} {c : Nat} {S : List (List Od)} (h : RowsT w (.slice A S.length c) S) (hn : ∀ s ∈ S, s.length ≤ 1000000) (hl : ∀ s ∈ S, ∀ o ∈ s, o.legs.length ≤ 100000) : StS w A S := by
  obtain ⟨vs, ho, hE⟩ := h
  refine ⟨vs, (ho.rd.lt (by omega)).more fun k hk => hk.2, by have := ho.1; omega, fun i v s hv hs => ?_⟩
  obtain ⟨cells, hro, hrE⟩ := hE i v s hv hs
  obtain ⟨A', c', e, h1, h2⟩ := hro.form
  subst e
  have hmem := List.mem_of_getElem? hs
  exact ⟨A', c', rfl, ⟨⟨cells, (hro.rd.lt (by omega)).more fun k hk => hk.2, each_imp hrE fun cs o h => h.r fun k hk => by obtain ⟨cur, hc⟩ := hk; exact hc.lt⟩, hn s hmem, h1, hl s hmem⟩⟩
/-- one row more -/
theorem rowsT_snoc {w w1 w2 : World} {sv sv' v : Value} {vs : List Value} {S : List (List Od)} {s : List Od} (ho : Own w 22 1 sv S.length vs) (hE : ∀ (j : Nat) (v : Value) (s : List Od), vs[j]? = some v → S[j]? = some s → RowT w v s) (hf : Fr No w w1) (hr : RowT w1 v s)
    (hf2 : Fr (AtO sv.ownBlock) w1 w2) (hn : Own w2 22 1 sv' (S.length + 1) (vs ++ [v])) : RowsT w2 sv' (S ++ [s]) := by
  have ho1 := ho.fr hf (fun _ _ h => h)
  have key : ∀ {v : Value} {s : List Od}, RowT w1 v s → RowT w2 v s := fun h => by
    refine h.fr hf2 (fun k hk hL => ?_) (fun k hk hS => ?_)
    · obtain ⟨cur, hc⟩ := hL
      obtain ⟨cur2, hc2⟩ := ho1.blk k hk
      exact hc.ne_ hc2 (by decide) rfl
    · obtain ⟨cells, hro, _⟩ := h
      obtain ⟨cur, hc⟩ := hro.blk k hk
      obtain ⟨cur2, hc2⟩ := ho1.blk k hS
      exact hc.ne_ hc2 (by decide) rfl
  have hvl : vs.length = S.length := by have := ho.1; omega
  refine ⟨vs ++ [v], by rw [List.length_append]; exact hn, fun j u t hu ht => ?_⟩
  by_cases hj : j < S.length
  · rw [List.getElem?_append_left (by omega)] at hu
    rw [List.getElem?_append_left hj] at ht
    exact key ((hE j u t hu ht).no hf)
  · rw [List.getElem?_append_right (by omega)] at hu ht
    have h0 : j - S.length = 0 := by
      rcases Nat.eq_zero_or_pos (j - S.length) with h | h
      · exact h
      · rw [List.getElem?_eq_none (by simp; omega)] at ht; cases ht
    rw [hvl, h0] at hu
    rw [h0] at ht
    simp only [List.getElem?_cons_zero, Option.some.injEq] at hu ht
    subst hu ht
    exact key hr
def ImRel (w : World) (p q N : Nat) (R : Option (List (List Od) × List UInt8)) (ev sv lv iv : Value) (wr : World) : Prop :=
  ∃ i : Nat, i ≤ N ∧ iv = .int .i64 i ∧ Fr (At1 p) w wr ∧ (∀ k, sv.ownBlock = some k → w.heap.size ≤ k) ∧
    ((∃ S l', ev = .int .i64 0 ∧ (S : List (List Od)).length = i ∧ RowsT wr sv S ∧ Rdr wr p q l' 0 ∧ lv = .int .i64 (200 - (flatS S).length : Int) ∧ (flatS S).length ≤ 200 ∧ R = (rrows (N - i) (200 - (flatS S).length : Int) l').map (fun r => (S ++ r.1, r.2)) ∧ (∀ o ∈ flatS S, rightO o = true)) ∨
     (∃ (k : Nat) (A : Option Addr) (n c : Nat) (m : Int), k ≠ 0 ∧ k ≤ 10 ∧ ev = .int .i64 (k : Int) ∧ R = none ∧ sv = .slice A n c ∧ n ≤ N ∧ lv = .int .i64 m))
def ImpRet (w : World) (b : List UInt8) (e : Ending) (w' : World) : Prop :=
  Fr No w w' ∧ ((∃ A c S, rsteps b = some S ∧ NormalO S ∧ e = .returned (.tuple #[.slice A S.length c, .int .i64 0]) ∧ StS w' A S ∧ S.length ≤ c) ∨ ((∀ S, rsteps b = some S → ¬ NormalO S) ∧ e = .returned (.tuple #[.slice none 0 0, .int .i64 3])))
theorem rrows_succ (k : Nat) (left : Int) (l : List UInt8) : rrows (k + 1) left l = (rstep left l).bind fun s => (rrows k (left - s.1.length) s.2).map fun q => (s.1 :: q.1, q.2) := rfl
theorem flatS_snoc (S : List (List Od)) (s : List Od) : flatS (S ++ [s]) = flatS S ++ s := by unfold flatS; simp
theorem len_mem {S : List (List Od)} {s : List Od} (h : s ∈ S) : s.length ≤ (flatS S).length := by
  unfold flatS
  exact (List.sublist_flatten_of_mem h).length_le
end Go.Proofs.YtnphncemghfkbaaGreat

namespace Go.Proofs.YtnphncemghfkbaaGreat
open Go.RowKit Go.My Go.Maps Go.WideMaps
set_option linter.unusedSimpArgs false
set_option linter.unusedVariables false
attribute [local go_sem ↓] Go.wp_at_zero Go.wp_at_succ

set_option maxRecDepth 100000 in
set_option maxHeartbeats 2000000 in
theorem import_any (w : World) (F : Nat → Prop) (A : Option Addr) (c : Nat) (b : List UInt8) (hb : Rd w F 1 A b.length (bs b)) (hsz : b.length ≤ 140737488355328) :
    Calls Tryz.prog 21 #[.slice A b.length c] w (ImpRet w b) := by
  have HN := Lib.hid (pknew_any F A c b w hb hsz)
  have HRG : Hid (∀ W p q, Rdr W p q b 0 → Calls Tryz.prog 48 #[.pointer (some ⟨p, 0, none⟩), .int .i64 0, .int .i64 200] W (RetR W p q (two (rrange 0 200 b 0).1 (rrange 0 200 b 0).2.1) (rrange 0 200 b 0).2.2 (rrange 0 200 b 0).2.1)) := fun W p q hW => rrange_at p q 0 200 b 0 W hW (by omega)
  have HRST : Hid (∀ W p q most l, Rdr W p q l 0 → 0 ≤ most → most ≤ 200 → Calls Tryz.prog 49 #[.pointer (some ⟨p, 0, none⟩), .int .i64 most] W (RsRet W p q most l)) := fun W p q most l h h0 h1 => readStep_any W p q most l h h0 h1
  have HDN : Hid (∀ W p q l, Rdr W p q l 0 → Calls Tryz.prog 50 #[.pointer (some ⟨p, 0, none⟩)] W (RetR W p q (.int .i64 (doneE l 0 : Int)) (if (0 : Nat) = 0 then [] else l) (doneE l 0))) := fun W p q l h => done_at p q l 0 W h (by omega)
  have HRS : Hid (rsteps b = if (rrange 0 200 b 0).2.1 = 0 then (rrows (rrange 0 200 b 0).1.toNat 200 (rrange 0 200 b 0).2.2).bind fun q => if q.2 = [] then some q.1 else none else none) := rfl
  have hre : (rrange 0 200 b 0).2.1 < 5 := rrange_err 0 200 b 0 (by omega)
  unfold two at HRG
  clear hb hsz
  by_cases he : (rrange 0 200 b 0).2.1 = 0
  · obtain ⟨hb0, hb1, hb2⟩ := rrng_only 0 200 b he
    rw [he] at HRG
    rw [if_pos he] at HRS
    obtain ⟨N, hN⟩ : ∃ N : Nat, (rrange 0 200 b 0).1 = (N : Int) := ⟨(rrange 0 200 b 0).1.toNat, by omega⟩
    rw [hN] at HRG HRS hb1 hb2
    rw [Int.toNat_natCast] at HRS
    have hN2 : N ≤ 200 := by omega
    clear hb0 he hre hN
    generalize (rrange 0 200 b 0).2.2 = l1 at *
    have HNM : Hid (∀ W A c S, StS W A S → S.length ≤ 200 → (flatS S).length ≤ 200 → (∀ o ∈ flatS S, rightO o = true) → Calls Tryz.prog 25 #[.slice A (S : List (List Od)).length c] W (Told W (NormalO S))) := fun W A c S h h1 h2 h3 => normal_any W A c S h (by omega) (by omega) (fun o ho => by
      have := (right_short (h3 o ho)).legs
      omega)
    go_enter Tryz.func21, Tryz.ntmps21
    go_wp2_with fail
    (with_reducible refine HN.out.mono ?_)
    rintro e w0 ⟨p, q, rfl, hr0, hf0, hp0, hq0⟩
    have HF0 := Lib.hid hf0
    have HP0 : Hid (w.heap.size ≤ p) := hp0
    have HR0 := Lib.hid hr0
    clear hf0 hr0 HN
    go_wp2_with fail
    (with_reducible refine (HRG.out _ _ _ HR0.out).mono ?_)
    rintro e w1 ⟨rfl, hr1, hf1⟩
    have HR1 := Lib.hid hr1
    have HF1 : Hid (Fr No w w1) := HF0.out.trans' hf1 fun i hi hlt => by
      have : i = p := hi
      omega
    have hplt := hr1.lt
    have hqlt := (Rdr_q hr1).2
    have HPQ : Hid (p < w1.heap.size ∧ q < w1.heap.size) := ⟨hplt, hqlt⟩
    clear hr1 hf1 HRG HR0 HF0 hplt hqlt hp0 hq0
    have HBAD : Hid (∀ W, Fr (At1 p) w1 W → rrows N 200 l1 = none → ImpRet w b (.returned (.tuple #[.slice none 0 0, .int .i64 3])) W) := fun W hW hn => by
      refine ⟨HF1.out.trans' hW fun i hi hlt => ?_, .inr ⟨fun S hS => ?_, rfl⟩⟩
      · have : i = p := hi
        have := HP0.out
        omega
      · rw [HRS.out, hn] at hS
        cases hS
    go_wp2
    go_loopw [6, 7, 8, 9] (fun ev sv lv iv wr => ImRel w1 p q N (rrows N 200 l1) ev sv lv iv wr) (fun _ _ _ iv _ => N - (intOf iv).toNat)
    case atStart =>
      refine ⟨0, Nat.zero_le _, rfl, Fr.refl _ _, fun k hk => (by cases hk), .inl ⟨[], l1, rfl, rfl, RowsT.nil _, HR1.out, rfl, by simp [flatS], ?_, fun o ho => (by cases ho)⟩⟩
      show rrows N 200 l1 = (rrows (N - 0) (200 - ((flatS []).length : Nat) : Int) l1).map _
      rw [Nat.sub_zero]
      show rrows N 200 l1 = (rrows N 200 l1).map _
      cases rrows N 200 l1 with
      | none => rfl
      | some r => rfl
    case round =>
      obtain ⟨i, hi, rfl, hfr, hnew, ⟨S, l', rfl, hSi, hrows, hrd, rfl, hfl, hR, hok⟩ | ⟨k, A, n, c, m, hk0, hk10, rfl, hR, rfl, hn, rfl⟩⟩ := hrel
      · have hi62 : (i : Int) ≤ 200 := by omega
        obtain ⟨SVA, SVc, hSV, hSc, -⟩ := hrows.form
        subst hSV
        by_cases hlt : i < N
        · have hlti : (i : Int) < (N : Int) := by omega
          have hNi : N - i = (N - (i + 1)) + 1 := by omega
          rw [hNi, rrows_succ] at hR
          have HCALL := Lib.hid (HRST.out wr p q (200 - (flatS S).length : Int) l' hrd (by omega) (by omega))
          obtain ⟨vs, hown, hE⟩ := hrows
          have HROWS : Hid (RowsT wr (.slice SVA S.length SVc) S) := ⟨vs, hown, hE⟩
          have HPB : Hid (∃ cs, Blk wr p 99 cs) := by
            obtain ⟨A, c, hb, _⟩ := hrd
            exact ⟨_, hb⟩
          have HFR := Lib.hid hfr
          have HNEW := Lib.hid hnew
          have HLI : Hid (S.length = i) := hSi
          have HKO := Lib.hid hok
          have HFL : Hid ((flatS S).length ≤ 200) := hfl
          have HSZ : Hid (w1.heap.size ≤ wr.heap.size) := hfr.size
          have hSl : S.length ≤ 200 := by omega
          have HBX : Hid (S.length + 1 ≤ maxLen ∧ (S.length + 1) * 24 ≤ 140737488355328) := by
            refine ⟨?_, ?_⟩ <;> (try simp only [maxLen]) <;> omega
          have HRR := Lib.hid hR
          have hleft : ∃ lf : Nat, (200 - (flatS S).length : Int) = (lf : Int) ∧ lf ≤ 200 := ⟨200 - (flatS S).length, by omega, by omega⟩
          obtain ⟨lf, hlf, hlf2⟩ := hleft
          have HLF : Hid ((200 - (flatS S).length : Int) = (lf : Int)) := hlf
          rw [hlf] at HCALL ⊢
          clear hown hE hfr hnew hrd hSi hok hfl hR hlf
          go_wp2_with fail
          (with_reducible refine HCALL.out.mono ?_)
          rintro e w2 ⟨A2, n2, c2, k2, rfl, hf2, hn2, h2⟩
          have HF2 := Lib.hid hf2
          have HROWS2 : Hid (RowsT w2 (.slice SVA S.length SVc) S) := by
            obtain ⟨cs, hp⟩ := HPB.out
            exact HROWS.out.other hp (by decide) (by decide) (by decide) HF2.out
          have HH2 := Lib.hid h2
          clear hf2 h2 HCALL
          obtain ⟨vs2, hown2, hE2⟩ := HROWS2.out
          have HO2 := Lib.hid hown2
          have HE2 := Lib.hid hE2
          clear hown2 hE2
          have hsub : wrap64 ((lf : Int) - (n2 : Int)) = (lf : Int) - (n2 : Int) := IntWalk.wrap64_in _ ⟨by omega, by omega⟩
          go_wp2_with (first | (at_builtin; refine wpList_app _ rfl (.tmp 33) (.tmp 35) 29 29 rfl elRow (HO2.out.alloc _) rfl (Src.of_new (cs := #[.slice A2 n2 c2]) (t := 22) w2.heap.size (heap_alloc_new w2 _) Tryz.underlying29 rfl (by simp [Value.oneCell'])) rfl HBX.out.1 HBX.out.2 ?_; intro v7 w7 ho7 hf7 hn7; obtain ⟨A7, c7, rfl, -, -⟩ := ho7.form; have HO7 := Lib.hid ho7; have HF7 := Lib.hid hf7; have HN7 := Lib.hid hn7; clear ho7 hf7 hn7) | fail)
          go_roundw
          case rel =>
            have s2 := HF2.out.size
            have s1 := HSZ.out
            have hnew7 : ∀ k, (Value.slice A7 (S.length + 1) c7).ownBlock = some k → w1.heap.size ≤ k := fun k hk => by
              rcases HN7.out with h | h
              · rw [h] at hk
                exact HNEW.out k hk
              · rw [h] at hk
                injection hk with hk
                rw [World.size_alloc] at hk
                omega
            have hfr7 : Fr (At1 p) w1 w7 := ((HFR.out.trans HF2.out).alloc _).trans' HF7.out fun j hj hlt => by
              have := HNEW.out j hj
              omega
            refine ⟨i + 1, hlt, by go_num, hfr7, hnew7, ?_⟩
            rcases HH2.out with ⟨L, rest, k1, k3, k4, k5, k6, k7⟩ | ⟨k1, k3, k4⟩
            · rw [← HLF.out] at k1
              obtain ⟨g1, g2, -, -⟩ := rstep_only _ _ _ _ k1
              refine .inl ⟨S ++ [L], rest, by rw [k3]; rfl, by rw [List.length_append, HLI.out]; rfl, ?_, ?_, ?_, ?_, ?_, ?_⟩
              · exact rowsT_snoc HO2.out HE2.out ((Fr.refl _ _).alloc _) (k5.no ((Fr.refl _ _).alloc _)) HF7.out HO7.out
              · refine (Rdr_no k6 ((Fr.refl _ _).alloc _)).fr HF7.out (fun e => ?_) (fun e => ?_)
                · have := HNEW.out p e
                  have := HPQ.out.1
                  omega
                · have := HNEW.out q e
                  have := HPQ.out.2
                  omega
              · rw [flatS_snoc, List.length_append, ← k4]
                have := HLF.out
                first
                  | (rw [hsub]; congr 1; omega)
                  | (congr 1; omega)
              · rw [flatS_snoc, List.length_append]
                have := HLF.out
                omega
              · rw [HRR.out, k1, Option.bind_some, flatS_snoc, List.length_append]
                have e1 : (200 - (((flatS S).length + L.length : Nat) : Int)) = 200 - (flatS S).length - (L.length : Nat) := by omega
                rw [e1]
                cases rrows (N - (i + 1)) (200 - (flatS S).length - (L.length : Nat)) rest with
                | none => rfl
                | some r => simp
              · intro o ho
                rw [flatS_snoc] at ho
                rcases List.mem_append.1 ho with ho | ho
                · exact HKO.out o ho
                · exact k7 o ho
            · rw [← HLF.out] at k1
              refine .inr ⟨k2, A7, S.length + 1, c7, _, k3, k4, rfl, ?_, rfl, by have := HLI.out; omega, rfl⟩
              rw [HRR.out, k1]
              rfl
          case measure => simp [intOf]; omega
        · obtain rfl : i = N := by omega
          have hNN : ¬ ((i : Int) < (i : Int)) := by omega
          rw [Nat.sub_self] at hR
          have hR2 : rrows i 200 l1 = some (S, l') := by rw [hR]; simp [rrows]
          have hfrw : Fr No w wr := HF1.out.trans' hfr fun j hj hlt => by
            have : j = p := hj
            have := HP0.out
            omega
          have hsts : ∀ W, Fr (At1 p) wr W → StS W SVA S := fun W hW => by
            obtain ⟨A9, c9, hb9, _⟩ := hrd
            exact (hrows.other hb9 (by decide) (by decide) (by decide) hW).sts (fun s hs => by have := len_mem hs; omega) (fun s hs o ho => by
              have := (right_short (hok o (List.mem_flatten.2 ⟨s, hs, ho⟩))).legs
              omega)
          have HD := Lib.hid (HDN.out wr p q l' hrd)
          have HFW := Lib.hid hfrw
          have HST := Lib.hid hsts
          have HNX : Hid (∀ W, StS W SVA S → Calls Tryz.prog 25 #[.slice SVA S.length SVc] W (Told W (NormalO S))) := fun W hW => HNM.out W SVA SVc S hW (by omega) hfl hok
          have HRS2 : Hid (rsteps b = if l' = [] then some S else none) := by
            show _ = _
            rw [HRS.out, hR2]
            rfl
          have HPG : Hid (w.heap.size ≤ p) := HP0.out
          have HSC : Hid (S.length ≤ SVc) := hSc
          clear hrows hrd hR hok hfr hnew hSi hfrw hsts hR2 hfl hSc
          by_cases hl' : l' = []
          · have hd : doneE l' 0 = 0 := by unfold doneE; rw [if_pos rfl, if_pos hl']
            rw [if_pos hl'] at HRS2
            rw [hd] at HD
            clear hl' hd
            go_wp2_with fail
            (with_reducible refine HD.out.mono ?_)
            rintro e w8 ⟨rfl, -, hf8⟩
            have HF8 : Hid (Fr No w w8) := HFW.out.trans' hf8 fun j hj hlt => by
              have : j = p := hj
              have := HPG.out
              omega
            have HS8 : Hid (StS w8 SVA S) := HST.out w8 hf8
            clear hf8
            go_wp2_with fail
            (with_reducible refine (HNX.out _ HS8.out).mono ?_)
            rintro e w9 ⟨r, rfl, hr9, hf9⟩
            have HR9 := Lib.hid hr9
            have HF9 := Lib.hid hf9
            clear hr9 hf9
            cases r
            · go_wp2
              go_ret2
              refine ⟨HF8.out.trans HF9.out, .inr ⟨fun T hT hN => ?_, rfl⟩⟩
              rw [HRS2.out] at hT
              injection hT with hT
              subst hT
              have := HR9.out.2 hN
              cases this
            · go_wp2
              go_ret2
              exact ⟨HF8.out.trans HF9.out, .inl ⟨SVA, SVc, S, HRS2.out, HR9.out.1 (by first | rfl | trivial), rfl, HS8.out.no HF9.out, HSC.out⟩⟩
          · have hd : doneE l' 0 = 3 := by unfold doneE; rw [if_pos rfl, if_neg hl']
            rw [if_neg hl'] at HRS2
            rw [hd] at HD
            clear hl' hd
            go_wp2_with fail
            (with_reducible refine HD.out.mono ?_)
            rintro e w8 ⟨rfl, -, hf8⟩
            have HF8 : Hid (Fr No w w8) := HFW.out.trans' hf8 fun j hj hlt => by
              have : j = p := hj
              have := HPG.out
              omega
            clear hf8
            go_wp2
            go_ret2
            exact ⟨HF8.out, .inr ⟨fun T hT => (by rw [HRS2.out] at hT; cases hT), rfl⟩⟩
      · have hki : ((k : Int) == 0) = false := beq_eq_false_iff_ne.2 (by omega)
        have hkn : (k == 0) = false := beq_eq_false_iff_ne.2 hk0
        have hkm : ((k : Int) != 0) = true := bne_iff_ne.2 (by omega)
        have hkmn : (k != 0) = true := bne_iff_ne.2 hk0
        have hke : ¬ ((k : Int) = 0) := by omega
        have HRET := Lib.hid (HBAD.out wr hfr hR)
        clear hfr hnew hR
        by_cases hlt : i < N
        · have hlti : (i : Int) < (N : Int) := by omega
          go_wp2
          go_ret2
          exact HRET.out
        · have hlti : ¬ (i : Int) < (N : Int) := by omega
          go_wp2
          go_ret2
          exact HRET.out
  · rw [if_neg he] at HRS
    have hv0 : (rrange 0 200 b 0).1 = 0 := rrange_zero 0 200 b 0 he
    rw [hv0] at HRG
    clear hv0
    generalize (rrange 0 200 b 0).2.1 = ee at *
    generalize (rrange 0 200 b 0).2.2 = l1 at *
    have hei : ((ee : Int) == 0) = false := beq_eq_false_iff_ne.2 (by omega)
    have hen : (ee == 0) = false := beq_eq_false_iff_ne.2 he
    have hem : ((ee : Int) != 0) = true := bne_iff_ne.2 (by omega)
    have hemn : (ee != 0) = true := bne_iff_ne.2 he
    go_enter Tryz.func21, Tryz.ntmps21
    go_wp2_with fail
    (with_reducible refine HN.out.mono ?_)
    rintro e w0 ⟨p, q, rfl, hr0, hf0, hp0, hq0⟩
    have HF0 := Lib.hid hf0
    have HR0 := Lib.hid hr0
    clear hf0 hr0 HN
    go_wp2_with fail
    (with_reducible refine (HRG.out _ _ _ HR0.out).mono ?_)
    rintro e w1 ⟨rfl, hr1, hf1⟩
    have HF1 : Hid (Fr No w w1) := HF0.out.trans' hf1 fun i hi hlt => by
      have : i = p := hi
      omega
    clear hr1 hf1
    go_wp2
    refine wp_loop_rounds 1 ?_
    rw [rounds_succ]
    go_wp2
    go_ret2
    exact ⟨HF1.out, .inr ⟨fun S hS => (by rw [HRS.out] at hS; cases hS), rfl⟩⟩
end Go.Proofs.YtnphncemghfkbaaGreat

namespace Go.Proofs.YtnphncemghfkbaaGreat
open Go.RowKit Go.My Go.Maps Go.WideMaps
set_option linter.unusedSimpArgs false
set_option linter.unusedVariables false
attribute [local go_sem ↓] Go.wp_at_zero Go.wp_at_succ

/-- bytes of the call's own, in a new block -/
def RetBN (w : World) (l : List UInt8) (e : Ending) (w' : World) : Prop := ∃ A c, e = .returned (.slice A l.length c) ∧ Own w' 5 1 (.slice A l.length c) l.length (bs l) ∧ Fr No w w' ∧ ∀ k, (Value.slice A l.length c).ownBlock = some k → w.heap.size ≤ k
set_option maxRecDepth 100000 in
theorem number11_any (n : Nat) (w : World) (hn : n ≤ 1000000) : Calls Tryz.prog 30 #[.int .i64 n] w (RetBN w (nB (n : Int))) := by
  have H := Lib.hid (num_any (n : Int) w (by omega) (by omega))
  go_enter Tryz.func30, Tryz.ntmps30
  go_wp2_with fail
  refine H.out.mono ?_
  rintro e w1 ⟨v, rfl, ho, hf, hn⟩
  obtain ⟨A, c, rfl, _, _⟩ := ho.form
  go_wp2
  go_ret
  exact ⟨A, c, rfl, ho, fr_at_none hf, newer_none hn⟩
def expB (l : List Od) : Bool := decide (l.length ≤ 200) && (rightL l && l.all rightO)
def ExpRet (w : World) (l : List Od) (e : Ending) (w' : World) : Prop :=
  Fr No w w' ∧ (expB l = true → ∃ A c S, StepsO l S ∧ e = .returned (.tuple #[.slice A (stepsB S).length c, .int .i64 0]) ∧ Own w' 5 1 (.slice A (stepsB S).length c) (stepsB S).length (bs (stepsB S))) ∧ (expB l = false → e = .returned (.tuple #[.slice none 0 0, .int .i64 1]))
/-- behind the first i rows -/
def E1Rel (w : World) (S : List (List Od)) (bv iv : Value) (wr : World) : Prop :=
  ∃ i A c b, i ≤ S.length ∧ iv = .int .i64 (i : Nat) ∧ b = nB (S.length : Int) ++ rowsB (S.take i) ∧ bv = .slice A b.length c ∧ Own wr 5 1 (.slice A b.length c) b.length (bs b) ∧ Fr No w wr ∧ (∀ k, (Value.slice A b.length c).ownBlock = some k → w.heap.size ≤ k) ∧
    (∀ o ∈ flatS (S.take i), rightO o = true) ∧ b.length ≤ 20 + 20 * i + 1020 * (flatS (S.take i)).length
/-- behind the first k orders of a row -/
def E2Rel (w : World) (h : List UInt8) (n0 : Nat) (s : List Od) (bv iv : Value) (wr : World) : Prop :=
  ∃ k A c b, k ≤ s.length ∧ iv = .int .i64 (k : Nat) ∧ b = h ++ ordsB (s.take k) ∧ bv = .slice A b.length c ∧ Own wr 5 1 (.slice A b.length c) b.length (bs b) ∧ Fr No w wr ∧ (∀ k, (Value.slice A b.length c).ownBlock = some k → w.heap.size ≤ k) ∧
    (∀ o ∈ s.take k, rightO o = true) ∧ b.length ≤ n0 + 1020 * k
theorem srcB {w : World} {A : Option Addr} {c : Nat} {l : List UInt8} (h : Own w 5 1 (.slice A l.length c) l.length (bs l)) : Src Tryz.prog w 1 25 (.slice A l.length c) l.length (bs l) := Src.of_rd h.rd (bs_one l) Tryz.underlying25
theorem tB_len' (s : List UInt8) : (tB s).length ≤ 10 + s.length := by
  unfold tB
  rw [List.length_append]
  have := enc_length_le (zig (s.length : Int))
  omega
theorem ordsB_take {s : List Od} {k : Nat} (h : k < s.length) : ordsB (s.take (k + 1)) = ordsB (s.take k) ++ tB (bytesO s[k]) := by
  unfold ordsB
  rw [List.take_succ_eq_append_getElem h, List.flatMap_append]
  simp
theorem rowsB_take {S : List (List Od)} {k : Nat} (h : k < S.length) : rowsB (S.take (k + 1)) = rowsB (S.take k) ++ stepB S[k] := by
  unfold rowsB
  rw [List.take_succ_eq_append_getElem h, List.flatMap_append]
  simp
theorem own_new {w w1 : World} {A : Option Addr} {n c : Nat} {g : Option Nat} (h : Fr No w w1) (hn : ∀ k, g = some k → w.heap.size ≤ k) (hk : (Value.slice A n c).ownBlock = g ∨ (Value.slice A n c).ownBlock = some w1.heap.size) : ∀ k, (Value.slice A n c).ownBlock = some k → w.heap.size ≤ k := fun k e => by
  rcases hk with h1 | h1
  · exact hn k (h1.symm.trans e)
  · rw [h1] at e
    injection e with e
    have := h.size
    omega
theorem fr_new {w w1 w2 : World} {g : Option Nat} (h : Fr No w w1) (hn : ∀ k, g = some k → w.heap.size ≤ k) (hf : Fr (AtO g) w1 w2) : Fr No w w2 := h.trans' hf fun i hi hlt => by
  have := hn i hi
  omega
set_option maxRecDepth 100000 in
set_option maxHeartbeats 2000000 in
theorem export_any (w : World) (F : Nat → Prop) (A : Option Addr) (c : Nat) (l : List Od) (hl : Ls w F A c l) :
    Calls Tryz.prog 12 #[.slice A l.length c] w (ExpRet w l) := by
  by_cases h200 : l.length ≤ 200
  · have HRT := Lib.hid (rightC_any w w F A c l hl.ods hl.n)
    have hi200 : ¬ (200 : Int) < (l.length : Int) := by omega
    have hd200 : decide ((200 : Int) < (l.length : Int)) = false := decide_eq_false hi200
    have hd2 : decide (200 < l.length) = false := decide_eq_false (by omega)
    cases hr : rightL l
    · rw [hr] at HRT
      have HX : Hid (expB l = false) := by show _ = _; unfold expB; rw [hr]; simp
      clear hl
      go_enter Tryz.func12, Tryz.ntmps12
      go_wp2_with fail
      (with_reducible refine HRT.out.mono ?_)
      rintro e w1 ⟨rfl, hf1⟩
      go_wp2
      go_ret2
      exact ⟨hf1, fun h => (by rw [HX.out] at h; cases h), fun _ => rfl⟩
    · rw [hr] at HRT
      have HST : Hid (∀ W, Fr No w W → Calls Tryz.prog 14 #[.slice A l.length c] W (StepsRet W l)) := fun W hW => steps_any W F A c l (hl.no hW) (by omega)
      have HR : Hid (rightL l = true) := hr
      have HRt : Hid (Rt Od.id l) := (rightL_iff _).1 hr
      have HXT : Hid ((∀ o ∈ l, rightO o = true) → expB l = true) := fun h => by
        unfold expB
        rw [hr, decide_eq_true h200, List.all_eq_true.2 h]
        rfl
      have HXF : Hid ((∃ o ∈ l, rightO o = false) → expB l = false) := fun ⟨o, ho, hb⟩ => by
        unfold expB
        have : l.all rightO = false := by
          rw [List.all_eq_false]
          exact ⟨o, ho, by rw [hb]; decide⟩
        rw [this]
        simp
      have HNM : Hid (∀ (W : World) (n : Nat), n ≤ 1000000 → Calls Tryz.prog 30 #[.int .i64 n] W (RetBN W (nB (n : Int)))) := fun W n hn => number11_any n W hn
      clear hl hr
      go_enter Tryz.func12, Tryz.ntmps12
      go_wp2_with fail
      (with_reducible refine HRT.out.mono ?_)
      rintro e w1 ⟨rfl, hf1⟩
      go_wp2_with fail
      (with_reducible refine (HST.out _ hf1).mono ?_)
      rintro e w2 ⟨A2, c2, S, rfl, hc2, hS, hf2, hS1, -⟩
      have hSO := hS1 HR.out
      have HSO := Lib.hid hSO
      have HS := Lib.hid hS
      have HF2 := Lib.hid (hf1.trans hf2)
      have hmem := hSO.mem HRt.out.nodup
      have HMEM : Hid (∀ o, o ∈ flatS S ↔ o ∈ l) := hmem
      have hFL : (flatS S).length = l.length := by
        have := (hSO.lay clashB_comm ltI_irr HRt.out).1
        exact this.symm
      have hSl : S.length ≤ 200 := by
        have h1 := hSO.length
        rw [topL_levN] at h1
        have : maxN (levN clashB l) ≤ l.length := maxN_le fun n hn => (levN_le clashB l n hn).2
        omega
      have HFL : Hid ((flatS S).length ≤ 200) := by show _ ≤ _; omega
      have HOB : Hid (∀ i k (h1 : i < S.length) (h2 : k < S[i].length) W v, S[i][k].ok → LgS W (Lt W.heap.size) v S[i][k].legs → ∀ W', Fr No W W' → Calls Tryz.prog 31 #[S[i][k].val v] W' (RetBE (obL S[i][k]) (obE S[i][k]) W')) := fun i k h1 h2 W v hok hv W' hW => obytes_any _ _ _ _ hok (hv.no hW)
      have HTX : Hid (∀ (W : World) (s : List UInt8), s.length ≤ 1000 → Calls Tryz.prog 32 #[.string ⟨s.toArray⟩] W (RetB (tB s) W)) := fun W s hs => by
        have h := text_any ⟨s.toArray⟩ W (by show s.toArray.size ≤ _; simp; omega)
        refine h.mono ?_
        rintro e w' h1
        refine RetB.of ?_
        have e1 : (tB s).length = (enc (zig (⟨s.toArray⟩ : ByteArray).size)).length + (⟨s.toArray⟩ : ByteArray).size := by
          unfold tB
          rw [List.length_append]
          rfl
        have e2 : bs (tB s) = bs (enc (zig (⟨s.toArray⟩ : ByteArray).size) ++ (⟨s.toArray⟩ : ByteArray).data.toList) := by
          unfold tB
          rfl
        rw [e1, e2]
        exact h1
      have hSi : (S.length : Int) ≤ 200 := by omega
      clear hf1 hf2 hS hSO hS1 hmem hFL
      go_wp2_with fail
      (with_reducible refine (HNM.out _ S.length (by omega)).mono ?_)
      rintro e w3 ⟨A3, c3, rfl, ho3, hf3, hn3⟩
      have HO3 := Lib.hid ho3
      have HF3 := Lib.hid hf3
      have HN3 := Lib.hid hn3
      have HLB : Hid (∀ k : Nat, (nB (k : Int)).length ≤ 10) := fun k => nB_len _
      have HBO : Hid (∀ o : Od, rightO o = true → (bytesO o).length ≤ 1000 ∧ obL o = bytesO o ∧ obE o = 0) := fun o h => by
        have h1 := obL_len o
        unfold obL at h1
        rw [if_pos h] at h1
        exact ⟨h1, by unfold obL; rw [if_pos h], by unfold obE; rw [if_pos h]⟩
      have HBE : Hid (∀ o : Od, rightO o = false → obE o = 1) := fun o h => by unfold obE; rw [if_neg (by rw [h]; decide)]
      clear ho3 hf3 hn3
      go_wp2
      go_loopw [5, 27] (fun bv iv wr => E1Rel w2 S bv iv wr) (fun _ iv _ => S.length - (intOf iv).toNat)
      case atStart =>
        refine ⟨0, A3, c3, _, Nat.zero_le _, rfl, ?_, rfl, HO3.out, HF3.out, HN3.out, fun o ho => (by cases ho), ?_⟩
        · rw [List.take_zero]
          unfold rowsB
          simp
        · have := HLB.out S.length
          omega
      case round =>
        obtain ⟨i, A4, c4, b, hi, rfl, hb, rfl, hown, hfr, hnew, hok, hlen⟩ := hrel
        have hi62 : (i : Int) ≤ 1000000 := by omega
        by_cases hlt : i < S.length
        · obtain ⟨ad, Ar, cr, rfl, z0, hrow⟩ := (HS.out.no hfr).at_ i hlt
          have hrl : S[i].length ≤ 200 := by
            have h1 := flatS_le (S := S) (i + 1)
            rw [flatS_take hlt, List.length_append] at h1
            have := HFL.out
            omega
          have HROW : Hid (∀ W, Fr No w2 W → ∃ A' c', (Value.slice A' S[i].length c' = .slice Ar S[i].length cr) ∧ Ls W (Lt W.heap.size) A' c' S[i]) := fun W hW => by
            obtain ⟨ad1, A1, c1, e1, y0, y1⟩ := (HS.out.no hW).at_ i hlt
            obtain ⟨ad2, A2, c2, e2, z1, z2⟩ := HS.out.at_ i hlt
            injection e1 with e1
            injection e2 with e2
            subst e1 e2
            have k1 := hW.cell_some z1 (fun h => h)
            have k2 := hfr.cell_some z1 (fun h => h)
            rw [y0] at k1
            rw [z0] at k2
            simp only [Option.some.injEq] at k1 k2
            exact ⟨A1, c1, k1.trans k2.symm, y1⟩
          have HOWN := Lib.hid hown
          have HFR := Lib.hid hfr
          have HNEW := Lib.hid hnew
          have HOK := Lib.hid hok
          have HLEN := Lib.hid hlen
          have HB := Lib.hid hb
          have hbl : b.length ≤ 300000 := by
            have h1 := flatS_le (S := S) i
            have := HFL.out
            omega
          have HMEMR : Hid (∀ o ∈ S[i], o ∈ l) := fun o ho => (HMEM.out o).1 (flatS_mem hlt ho)
          have HOBI : Hid (∀ k (h2 : k < S[i].length) W v, S[i][k].ok → LgS W (Lt W.heap.size) v S[i][k].legs → ∀ W', Fr No W W' → Calls Tryz.prog 31 #[S[i][k].val v] W' (RetBE (obL S[i][k]) (obE S[i][k]) W')) := fun k h2 => HOB.out i k hlt h2
          have HNEXT : Hid (∀ W A' c' b', Own W 5 1 (.slice A' (b' : List UInt8).length c') b'.length (bs b') → Fr No w2 W → (∀ k, (Value.slice A' b'.length c').ownBlock = some k → w2.heap.size ≤ k) → b' = (b ++ nB (S[i].length : Int)) ++ ordsB S[i] → (∀ o ∈ S[i], rightO o = true) → b'.length ≤ (b.length + 10) + 1020 * S[i].length → E1Rel w2 S (.slice A' b'.length c') (.int .i64 ((i + 1 : Nat) : Int)) W) := fun W A' c' b' h1 h2 h3 h4 h5 h6 => by
            refine ⟨i + 1, A', c', b', hlt, rfl, ?_, rfl, h1, h2, h3, fun o ho => ?_, ?_⟩
            · rw [h4, rowsB_take hlt, HB.out]
              unfold stepB
              simp only [List.append_assoc]
            · rw [flatS_take hlt] at ho
              rcases List.mem_append.1 ho with ho | ho
              · exact HOK.out o ho
              · exact h5 o ho
            · rw [flatS_take hlt, List.length_append]
              have := HLEN.out
              omega
          clear hown hfr hnew hok hlen hb hrow
          generalize hs : S[i] = s at *
          go_wp2_with fail
          (with_reducible refine (HNM.out _ s.length (by omega)).mono ?_)
          rintro e w4 ⟨A5, c5, rfl, ho5, hf5, -⟩
          have HO4 := Lib.hid (HOWN.out.fr hf5 (fun _ _ h => h))
          have HF4 := Lib.hid (HFR.out.trans hf5)
          have HS5 := Lib.hid (srcB ho5)
          have hn10 := HLB.out s.length
          have HX : Hid (b.length + (nB (s.length : Int)).length ≤ maxLen ∧ (b.length + (nB (s.length : Int)).length) * 1 ≤ 140737488355328) := by
            refine ⟨?_, ?_⟩ <;> (try simp only [maxLen]) <;> omega
          clear ho5 hf5
          go_wp2_with (first | (at_builtin; refine wpList_app _ rfl (.tmp 31) (.tmp 34) 25 25 rfl elB HO4.out rfl HS5.out rfl HX.out.1 HX.out.2 ?_; intro v6 w6 ho6 hf6 hn6; obtain ⟨A6, c6, rfl, -, -⟩ := ho6.form; have HF6 : Hid (Fr No w2 w6) := fr_new HF4.out HNEW.out hf6; have HN6 : Hid (∀ k, (Value.slice A6 (b.length + (nB (s.length : Int)).length) c6).ownBlock = some k → w2.heap.size ≤ k) := own_new HF4.out HNEW.out hn6; have HO6 : Hid (Own w6 5 1 (.slice A6 (b.length + (nB (s.length : Int)).length) c6) (b.length + (nB (s.length : Int)).length) (bs (b ++ nB (s.length : Int)))) := (by rw [bs_append]; exact ho6); clear ho6 hf6 hn6) | fail)
          go_loopw [5, 38] (fun bv iv wr => E2Rel w2 (b ++ nB (s.length : Int)) (b.length + 10) s bv iv wr) (fun _ iv _ => s.length - (intOf iv).toNat)
          case atStart =>
            refine ⟨0, A6, c6, b ++ nB (s.length : Int), Nat.zero_le _, rfl, ?_, by rw [List.length_append], by rw [List.length_append]; exact HO6.out, HF6.out, by rw [List.length_append]; exact HN6.out, fun o ho => (by cases ho), by rw [List.length_append]; omega⟩
            rw [List.take_zero]
            unfold ordsB
            simp
          case round =>
            obtain ⟨k, A7, c7, b7, hk, rfl, hb7, rfl, hown7, hfr7, hnew7, hok7, hlen7⟩ := hrel
            have hk62 : (k : Int) ≤ 1000000 := by omega
            by_cases hkl : k < s.length
            · obtain ⟨A8, c8, e8, hrow8⟩ := HROW.out _ hfr7
              injection e8 with e8 _ e9
              subst e8 e9
              obtain ⟨bd, v, rfl, _, hoko, _, hLg, q0, q1, q2, q3, q4, q5, q6, q7, q8, q9⟩ := hrow8.ods.at_ k hkl
              obtain ⟨B1, d1, rfl, hd1, hd1'⟩ := hLg.form
              have HC := Lib.hid (HOBI.out k hkl _ _ hoko hLg)
              have HO7 := Lib.hid hown7
              have HF7 := Lib.hid hfr7
              have HN7 := Lib.hid hnew7
              have HKL : Hid (k + 1 ≤ s.length) := hkl
              have HIN : Hid (s[k] ∈ l) := HMEMR.out _ (List.getElem_mem hkl)
              have HBOK := Lib.hid (HBO.out s[k])
              have HBEK := Lib.hid (HBE.out s[k])
              have HNX : Hid (∀ W A' c' b', Own W 5 1 (.slice A' (b' : List UInt8).length c') b'.length (bs b') → Fr No w2 W → (∀ k, (Value.slice A' b'.length c').ownBlock = some k → w2.heap.size ≤ k) → b' = b7 ++ tB (bytesO s[k]) → rightO s[k] = true → b'.length ≤ b7.length + 1010 → E2Rel w2 (b ++ nB (s.length : Int)) (b.length + 10) s (.slice A' b'.length c') (.int .i64 ((k + 1 : Nat) : Int)) W) := fun W A' c' b' h1 h2 h3 h4 h5 h6 => by
                refine ⟨k + 1, A', c', b', hkl, rfl, ?_, rfl, h1, h2, h3, fun o ho => ?_, by omega⟩
                · rw [h4, hb7, ordsB_take hkl]
                  exact List.append_assoc _ _ _
                · rw [List.take_succ_eq_append_getElem hkl, List.mem_append, List.mem_singleton] at ho
                  rcases ho with ho | ho
                  · exact hok7 o ho
                  · rw [ho]; exact h5
              have hbl7 : b7.length ≤ 600000 := by omega
              unfold RetBE Od.val Od.cs at HC
              simp only [List.toArray] at HC
              clear hown7 hfr7 hnew7 hok7 hlen7 hb7 hrow8 hLg hoko
              generalize s[k] = o at *
              obtain ⟨cl, sq, kd, acct, peer, sum, lg, per, hold, note⟩ := o
              simp only at *
              cases hro : rightO ⟨cl, sq, kd, acct, peer, sum, lg, per, hold, note⟩
              · rw [HBEK.out hro] at HC
                have HX : Hid (expB l = false) := HXF.out ⟨_, HIN.out, hro⟩
                go_wp2_with fail
                (with_reducible refine (HC.out _ ((Fr.refl _ _).alloc _)).mono ?_)
                rintro e w9 ⟨A9, c9, rfl, -, hf9⟩
                go_wp2
                go_ret2
                exact ⟨(HF2.out.trans HF7.out).trans (((Fr.refl _ _).alloc _).trans hf9), fun h => (by rw [HX.out] at h; cases h), fun _ => rfl⟩
              · obtain ⟨hlb, hob, hoe⟩ := HBOK.out hro
                rw [hoe, hob] at HC
                have HRO : Hid (rightO ⟨cl, sq, kd, acct, peer, sum, lg, per, hold, note⟩ = true) := hro
                clear hro hob hoe
                generalize bytesO ⟨cl, sq, kd, acct, peer, sum, lg, per, hold, note⟩ = ob at *
                go_wp2_with fail
                (with_reducible refine (HC.out _ ((Fr.refl _ _).alloc _)).mono ?_)
                rintro e w9 ⟨A9, c9, rfl, ho9, hf9⟩
                have HF9 := Lib.hid (((Fr.refl No _).alloc _).trans hf9)
                have hcv := run_str_of_bytes (P := Tryz.prog) (c := c9) 25 9 5 Tryz.underlying25 Tryz.underlying5 Tryz.underlying9 ho9.rd
                have HT9 := Lib.hid (HTX.out w9 ob hlb)
                clear ho9 hf9 q0 q1 q2 q3 q4 q5 q6 q7 q8 q9
                go_wp2_with fail
                (with_reducible refine HT9.out.mono ?_)
                rintro e w10 ⟨A10, c10, rfl, ho10, hf10⟩
                have HF10 := Lib.hid (HF9.out.trans hf10)
                have HO10 := Lib.hid (HO7.out.fr HF10.out (fun _ _ h => h))
                have HS10 := Lib.hid (srcB ho10)
                have htl := tB_len' ob
                have HX : Hid (b7.length + (tB ob).length ≤ maxLen ∧ (b7.length + (tB ob).length) * 1 ≤ 140737488355328) := by
                  refine ⟨?_, ?_⟩ <;> (try simp only [maxLen]) <;> omega
                clear ho10 hf10
                go_wp2_with (first | (at_builtin; refine wpList_app _ rfl (.tmp 49) (.tmp 52) 25 25 rfl elB HO10.out rfl HS10.out rfl HX.out.1 HX.out.2 ?_; intro v11 w11 ho11 hf11 hn11; obtain ⟨A11, c11, rfl, -, -⟩ := ho11.form; have HF11 : Hid (Fr No w2 w11) := fr_new (HF7.out.trans HF10.out) HN7.out hf11; have HN11 : Hid (∀ k, (Value.slice A11 (b7.length + (tB ob).length) c11).ownBlock = some k → w2.heap.size ≤ k) := own_new (HF7.out.trans HF10.out) HN7.out hn11; have HO11 : Hid (Own w11 5 1 (.slice A11 (b7.length + (tB ob).length) c11) (b7.length + (tB ob).length) (bs (b7 ++ tB ob))) := (by rw [bs_append]; exact ho11); clear ho11 hf11 hn11) | fail)
                have HRL := Lib.hid (HNX.out w11 A11 c11 (b7 ++ tB ob) (by rw [List.length_append]; exact HO11.out) HF11.out (by rw [List.length_append]; exact HN11.out) rfl HRO.out (by rw [List.length_append]; omega))
                rw [List.length_append] at HRL
                go_roundw
                case rel =>
                  obtain ⟨k', A', c', b', h1, h2, h3⟩ := HRL.out
                  exact ⟨k', A', c', b', h1, by rw [← h2]; go_num, h3⟩
                case measure => have := HKL.out; simp [intOf]; omega
            · obtain rfl : k = s.length := by omega
              rw [List.take_length] at hb7 hok7
              have HRL := Lib.hid (HNEXT.out _ A7 c7 b7 hown7 hfr7 hnew7 hb7 hok7 hlen7)
              clear hown7 hfr7 hnew7 hok7 hlen7 hb7
              go_wp2
              go_roundw
              case rel =>
                obtain ⟨k', A', c', b', h1, h2, h3⟩ := HRL.out
                exact ⟨k', A', c', b', h1, by rw [← h2]; go_num, h3⟩
              case measure => simp [intOf]; omega
        · obtain rfl : i = S.length := by omega
          rw [List.take_length] at hb hok
          have HX : Hid (expB l = true) := HXT.out fun o ho => hok o ((HMEM.out o).2 ho)
          have HRET : Hid (ExpRet w l (.returned (.tuple #[.slice A4 b.length c4, .int .i64 0])) wr) := by
            refine ⟨HF2.out.trans hfr, fun _ => ⟨A4, c4, S, HSO.out, ?_, ?_⟩, fun h => (by rw [HX.out] at h; cases h)⟩
            · rw [hb]; rfl
            · rw [hb] at hown
              exact hown
          clear hown hfr hnew hok hlen hb
          go_wp2
          go_ret2
          exact HRET.out
  · have HX : Hid (expB l = false) := by show _ = _; unfold expB; rw [decide_eq_false h200]; simp
    have hi200 : (200 : Int) < (l.length : Int) := by omega
    have hd200 : decide ((200 : Int) < (l.length : Int)) = true := decide_eq_true hi200
    have hd2 : decide (200 < l.length) = true := decide_eq_true (by omega)
    clear hl
    generalize hn : l.length = n at *
    go_enter Tryz.func12, Tryz.ntmps12
    go_wp2
    go_ret2
    exact ⟨Fr.refl _ _, fun h => (by rw [HX.out] at h; cases h), fun _ => rfl⟩
end Go.Proofs.YtnphncemghfkbaaGreat

namespace Go.Proofs.YtnphncemghfkbaaGreat
open Go.RowKit Go.My
set_option linter.unusedSimpArgs false
set_option linter.unusedVariables false

theorem sameB_any (F G : Nat → Prop) (A B : Option Addr) (n c m d : Nat) (l r : List UInt8) (w : World) (hl : Rd w F 1 A n (bs l)) (hr : Rd w G 1 B m (bs r)) :
    Calls Tryz.prog 17 #[.slice A n c, .slice B m d] w fun e w' => e = .returned (.bool (decide (l = r))) ∧ w = w' := by
  have h1 := run_str_of_bytes (P := Tryz.prog) (c := c) 25 9 5 Tryz.underlying25 Tryz.underlying5 Tryz.underlying9 hl
  have h2 := run_str_of_bytes (P := Tryz.prog) (c := d) 25 9 5 Tryz.underlying25 Tryz.underlying5 Tryz.underlying9 hr
  clear hl hr
  go_enter Tryz.func17, Tryz.ntmps17
  go_wp2
  go_ret
  exact ⟨by rw [show (l == r) = decide (l = r) by rw [Bool.eq_iff_iff]; simp]; rfl, rfl⟩

theorem sameB_eq (F G : Nat → Prop) (A B : Option Addr) (n c m d : Nat) (l r : List UInt8) (w : World) (hlr : l = r) (hl : Rd w F 1 A n (bs l)) (hr : Rd w G 1 B m (bs r)) :
    Calls Tryz.prog 17 #[.slice A n c, .slice B m d] w fun e w' => e = .returned (.bool true) ∧ w = w' := by
  have h := sameB_any F G A B n c m d l r w hl hr
  rwa [decide_eq_true hlr] at h

end Go.Proofs.YtnphncemghfkbaaGreat

namespace Go.Proofs.YtnphncemghfkbaaGreat
open Go.RowKit Go.My Go.Maps Go.WideMaps
set_option linter.unusedSimpArgs false
set_option linter.unusedVariables false
attribute [local go_sem ↓] Go.wp_at_zero Go.wp_at_succ

def ask11 (seq : Int) (acct : ByteArray) : Od := ⟨0, seq, 7, acct, ⟨#[]⟩, 0, [], 0, 0, ⟨#[]⟩⟩
def live11 : List Od := [ask11 2 ⟨#[97]⟩, ask11 1 ⟨#[98]⟩, ask11 3 ⟨#[97]⟩]
def live11S : List (List Od) := [[ask11 1 ⟨#[98]⟩, ask11 2 ⟨#[97]⟩], [ask11 3 ⟨#[97]⟩]]
theorem touch_ask11 (s : Int) (b : UInt8) : touchL (ask11 s ⟨#[b]⟩) = [[b]] := by
  unfold touchL
  refine (upOf_eq (t := [[b]]) (by unfold Up; simp) fun x => ?_).symm
  rfl
theorem clash_ask11 (s t : Int) (b c : UInt8) : clashB (ask11 s ⟨#[b]⟩) (ask11 t ⟨#[c]⟩) = (decide (s = t) || decide (b = c)) := by
  unfold clashB
  rw [touch_ask11, touch_ask11]
  unfold meetL Od.id ask11
  simp
theorem live11_rt : Rt Od.id live11 := by
  unfold Rt live11 Od.id ask11
  decide
theorem live11_lev : lev clashB live11 = [(ask11 2 ⟨#[97]⟩, 1), (ask11 1 ⟨#[98]⟩, 1), (ask11 3 ⟨#[97]⟩, 2)] := by
  unfold lev live11
  simp [topOf, clash_ask11]
theorem live11_steps : StepsO live11 live11S := by
  refine StepsR.of live11_rt.nodup ?_ fun i hi => ?_
  · rw [live11_lev]; rfl
  · unfold rowOf
    rw [live11_lev]
    have hi2 : i < 2 := hi
    rcases i with _ | i
    · refine ⟨?_, ?_⟩
      · show List.Pairwise _ [ask11 1 ⟨#[98]⟩, ask11 2 ⟨#[97]⟩]
        simp [ltI, Od.id, ask11]
      · exact List.Perm.swap _ _ _
    · obtain rfl : i = 0 := by omega
      refine ⟨List.pairwise_singleton _ _, List.Perm.refl _⟩
theorem ask11_any (seq : Int) (acct : ByteArray) (w : World) : Calls Tryz.prog 28 #[.int .i64 seq, .string acct] w fun e w' => e = .returned (.agg #[.int .i64 0, .int .i64 seq, .int .i64 7, .string acct, .string ⟨#[]⟩, .int .i64 0, .slice none 0 0, .int .i64 0, .int .i64 0, .string ⟨#[]⟩]) ∧ Fr No w w' := by
  have hb := Blk.new w 47 #[.int .i64 0, .int .i64 seq, .int .i64 7, .string acct, .string ⟨#[]⟩, .int .i64 0, .slice none 0 0, .int .i64 0, .int .i64 0, .string ⟨#[]⟩]
  have d0 := hb.cell 0
  have d1 := hb.cell 1
  have d2 := hb.cell 2
  have d3 := hb.cell 3
  have d4 := hb.cell 4
  have d5 := hb.cell 5
  have d6 := hb.cell 6
  have d7 := hb.cell 7
  have d8 := hb.cell 8
  have d9 := hb.cell 9
  simp only [List.getElem?_toArray, List.getElem?_cons_zero, List.getElem?_cons_succ] at d0 d1 d2 d3 d4 d5 d6 d7 d8 d9
  clear hb
  go_enter Tryz.func28, Tryz.ntmps28
  go_wp2
  refine bodyPost_ret (v := .agg #[.int .i64 0, .int .i64 seq, .int .i64 7, .string acct, .string ⟨#[]⟩, .int .i64 0, .slice none 0 0, .int .i64 0, .int .i64 0, .string ⟨#[]⟩]) (by simp [results, Tryz.results28, go_sem, d0, d1, d2, d3, d4, d5, d6, d7, d8, d9]) rfl ?_
  exact ⟨rfl, (Fr.refl _ _).alloc _⟩
def ask11C (seq : Int) (acct : ByteArray) : List Value := (ask11 seq acct).cs (.slice none 0 0)
def live11C : List Value := ask11C 2 ⟨#[97]⟩ ++ ask11C 1 ⟨#[98]⟩ ++ ask11C 3 ⟨#[97]⟩
theorem live11E (w0 : World) : Each (OdR w0) 10 live11C live11 := by
  have ho : ∀ s b, In64 s → OdR w0 (ask11C s ⟨#[b]⟩) (ask11 s ⟨#[b]⟩) := fun s b h1 => ⟨.slice none 0 0, rfl, by
    unfold ask11 Od.ok In64 at *
    refine ⟨by simp, h1, by simp, ?_, ?_, by simp, by simp, by simp, ?_⟩
    · show (⟨#[b]⟩ : ByteArray).size ≤ maxLen; unfold maxLen; show 1 ≤ _; omega
    · show (⟨#[]⟩ : ByteArray).size ≤ maxLen; decide
    · show (⟨#[]⟩ : ByteArray).size ≤ maxLen; decide, fun g hg => absurd hg (by simp [ask11]), LgS_nil _ _⟩
  have h1 := Each.snocO (Each.nilO w0) (cs := ask11C 2 ⟨#[97]⟩) rfl (ho 2 97 (by unfold In64; omega))
  have h2 := Each.snocO h1 (cs := ask11C 1 ⟨#[98]⟩) rfl (ho 1 98 (by unfold In64; omega))
  exact Each.snocO h2 (cs := ask11C 3 ⟨#[97]⟩) rfl (ho 3 97 (by unfold In64; omega))
theorem ods_blk11 {w0 w : World} {g : Nat} {t : TypeId} {cs : List Value} {l : List Od} (h : Blk w g t cs.toArray) (hE : Each (OdR w0) 10 cs l) : OdsS w0 w (fun k => k = g) (some ⟨g, 0, none⟩) l := by
  refine ⟨cs, ⟨hE.1, fun _ => ⟨_, rfl, rfl, fun j u hu => ?_⟩⟩, hE⟩
  rw [add_zero, h.cell j]
  simpa using hu
theorem live11_ls {W : World} {g : Nat} {t : TypeId} (hb : Blk W g t live11C.toArray) : Ls W (fun k => k = g) (some ⟨g, 0, none⟩) 3 live11 := ⟨ods_blk11 hb (live11E W), by decide, by decide, by decide⟩
theorem steps_nil_eq {S : List (List Od)} (h : StepsO [] S) : S = [] := steps_uniq h StepsR.nil
theorem stepsB_nil : stepsB [] = [0] := by decide
theorem rsteps_nil : rsteps [0] = some [] := by
  rw [← stepsB_nil]
  exact rsteps_enc [] (fun s hs => by cases hs) (by decide)
theorem normal_nil : NormalO [] := ⟨List.nodup_nil, StepsR.nil⟩
theorem add0 (a : Addr) : a.add 0 = a := by unfold Addr.add; simp
set_option maxRecDepth 100000 in
set_option maxHeartbeats 1000000 in
theorem lives11 (w : World) : Calls Tryz.prog 10 #[] w (fun e w' => e = .returned (.bool true) ∧ Fr No w w') := by
  have HA := Lib.hid (fun s a W => ask11_any s a W)
  have HS0 : Hid (∀ W g t, Blk W g t live11C.toArray → Calls Tryz.prog 14 #[.slice (some ⟨g, 0, none⟩) 3 3] W fun e w' => ∃ A c, e = .returned (.slice A 2 c) ∧ 2 ≤ c ∧ StS w' A live11S ∧ Fr No W w') := fun W g t hb => by
    have h := steps_any W _ _ 3 live11 (live11_ls hb) (by decide)
    refine Calls.mono h ?_
    rintro e w' ⟨A, c, S, h1, h2, h3, h4, h5, _⟩
    have := steps_uniq (h5 ((rightL_iff _).2 live11_rt)) live11_steps
    subst this
    exact ⟨A, c, h1, h2, h3, h4⟩
  have HEX : Hid (∀ W, Calls Tryz.prog 12 #[.slice none 0 0] W fun e w' => ∃ A c, e = .returned (.tuple #[.slice A 1 c, .int .i64 0]) ∧ Rd w' (fun k => (Value.slice A 1 c).ownBlock = some k) 1 A 1 (bs [0]) ∧ Fr No W w') := fun W => by
    have h := export_any W Tr none 0 [] (Ls.nil W 0)
    refine Calls.mono h ?_
    rintro e w' ⟨h1, h2, _⟩
    obtain ⟨A, c, S, h3, h4, h5⟩ := h2 (by decide)
    have := steps_nil_eq h3
    subst this
    rw [stepsB_nil] at h4 h5
    exact ⟨A, c, h4, h5.rd, h1⟩
  have HIM : Hid (∀ W g, Blk W g 5 #[.int .u8 0] → Calls Tryz.prog 21 #[.slice (some ⟨g, 0, none⟩) 1 1] W fun e w' => ∃ A c, e = .returned (.tuple #[.slice A 0 c, .int .i64 0]) ∧ Fr No W w') := fun W g hb => by
    have h := import_any W (fun _ => True) (some ⟨g, 0, none⟩) 1 [0] ⟨rfl, fun _ => ⟨_, rfl, trivial, fun j u hu => ?_⟩⟩ (by decide)
    · refine Calls.mono h ?_
      rintro e w' ⟨h1, ⟨A, c, S, h2, _, h3, _⟩ | ⟨h2, _⟩⟩
      · rw [rsteps_nil] at h2
        injection h2 with h2
        subst h2
        exact ⟨A, c, h3, h1⟩
      · exact absurd normal_nil (h2 _ rsteps_nil)
    · rw [add_zero, hb.cell j]
      simpa [bs] using hu
  have HSB : Hid (∀ W A c g, Rd W (fun k => (Value.slice A 1 c).ownBlock = some k) 1 A 1 (bs [0]) → Blk W g 5 #[.int .u8 0] → Calls Tryz.prog 17 #[.slice A 1 c, .slice (some ⟨g, 0, none⟩) 1 1] W fun e w' => e = .returned (.bool true) ∧ W = w') := fun W A c g h1 hb => sameB_eq _ (fun _ => True) A _ 1 c 1 1 [0] [0] W rfl h1 ⟨rfl, fun _ => ⟨_, rfl, trivial, fun j u hu => by
    rw [add_zero, hb.cell j]
    simpa [bs] using hu⟩⟩
  have HNM : Hid (∀ W A c, StS W A live11S → Calls Tryz.prog 25 #[.slice A 2 c] W fun e w' => e = .returned (.bool true) ∧ Fr No W w') := fun W A c h => by
    have h := normal_any W A c live11S h (by decide) (by decide) (by decide)
    refine Calls.mono h ?_
    rintro e w' ⟨r, h1, h2, h3⟩
    rw [h2.2 (normal_of live11_rt live11_steps)] at h1
    exact ⟨h1, h3⟩
  go_enter Tryz.func10, Tryz.ntmps10
  go_wp2_with fail
  (with_reducible refine (HA.out _ _ _).mono ?_)
  rintro e w1 ⟨rfl, hf1⟩
  go_wp2_with fail
  (with_reducible refine (HA.out _ _ _).mono ?_)
  rintro e w2 ⟨rfl, hf2⟩
  go_wp2_with fail
  (with_reducible refine (HA.out _ _ _).mono ?_)
  rintro e w3 ⟨rfl, hf3⟩
  have HF3 := Lib.hid ((hf1.trans hf2).trans hf3)
  clear hf1 hf2 hf3
  have HB3 : Hid (Blk (w3.alloc (.cells live11C.toArray 47)) w3.heap.size 47 live11C.toArray) := Blk.new _ _ _
  have HF3a : Hid (Fr No w (w3.alloc (.cells live11C.toArray 47))) := HF3.out.alloc _
  go_wp2_with fail
  refine (HS0.out _ _ _ HB3.out).mono ?_
  rintro e w4 ⟨A, c, rfl, hc, hs4, hf4⟩
  have HF4 := Lib.hid (HF3a.out.trans hf4)
  have HS4 := Lib.hid hs4
  clear hs4 hf4 HB3 HF3a HF3 HA HS0
  go_wp2_with fail
  (with_reducible refine (HEX.out _).mono ?_)
  rintro e w5 ⟨A5, c5, rfl, hr5, hf5⟩
  have HF5 := Lib.hid (HF4.out.trans hf5)
  have HS5 := Lib.hid (HS4.out.no hf5)
  have HR5 := Lib.hid hr5
  have HI5 := Lib.hid (HIM.out _ _ (Blk.new w5 5 #[.int .u8 0]))
  have HX5 : Hid (Fr No w5 (w5.alloc (.cells #[.int .u8 0] 5))) := (Fr.refl _ _).alloc _
  clear hr5 hf5 HS4 HF4 HEX HIM
  go_wp2_with fail
  (with_reducible refine HI5.out.mono ?_)
  rintro e w6 ⟨A6, c6, rfl, hf6⟩
  have HX6 := Lib.hid (HX5.out.trans hf6)
  have HS6 := Lib.hid (HS5.out.no HX6.out)
  have HF6 := Lib.hid (HF5.out.trans HX6.out)
  have HB6 : Hid (Blk (w6.alloc (.cells #[.int .u8 0] 5)) w6.heap.size 5 #[.int .u8 0]) := Blk.new _ _ _
  have HSM := Lib.hid (HSB.out _ A5 c5 _ (HR5.out.fr (by omega) (HX6.out.alloc (.cells #[.int .u8 0] 5)) (fun _ _ _ h => h)) HB6.out)
  have HN6 := Lib.hid (HNM.out _ A c (HS6.out.no ((Fr.refl No w6).alloc (.cells #[.int .u8 0] 5))))
  clear hf6 HX5 HI5 HS5 HF5 HSB HNM
  obtain ⟨ad, A0, c0, rfl, z0, hl0⟩ := HS6.out.at_ 0 (by decide)
  obtain ⟨ad', A1, c1, e1, z1, hl1⟩ := HS6.out.at_ 1 (by decide)
  injection e1 with e1
  subst e1
  obtain ⟨a0, v0, rfl, _, _, _, _, _, q0, _⟩ := hl0.ods.at_ 0 (by decide)
  obtain ⟨a1, v1, rfl, _, _, _, _, _, p0, _⟩ := hl1.ods.at_ 0 (by decide)
  have z0' : w6.cell? ad = some (.slice (some a0) 2 c0) := by rw [add0] at z0; exact z0
  have z1' : w6.cell? ⟨ad.block, ad.off + 1, none⟩ = some (.slice (some a1) 1 c1) := by
    have e : ad.add 1 = ⟨ad.block, ad.off + 1, none⟩ := by unfold Addr.add; simp
    rw [← e]; exact z1
  have q0' : w6.cell? ⟨a0.block, a0.off + 1, none⟩ = some (.int .i64 1) := by rw [Nat.zero_mul, add0] at q0; exact q0
  have p0' : w6.cell? ⟨a1.block, a1.off + 1, none⟩ = some (.int .i64 3) := by rw [Nat.zero_mul, add0] at p0; exact p0
  clear z0 z1 q0 p0 hl0 hl1
  go_wp2_with (first | (go_at_call 17; (with_reducible refine HSM.out.mono ?_); rintro e w7 ⟨rfl, rfl⟩) | (go_at_call 25; (with_reducible refine HN6.out.mono ?_); rintro e w8 ⟨rfl, hf8⟩))
  go_ret
  exact ⟨rfl, (HF6.out.alloc _).trans hf8⟩
end Go.Proofs.YtnphncemghfkbaaGreat
