/- Lists of orders in memory; replies in rows. Orders done one behind the other: book.Fold. Events in memory, and a desk in memory. The small functions of a desk: New, find, Of, Book, At, slices.Clone of events. What a desk tells: Of, Book, At, Poll. -/
import Derived.Test.YtlanhclgbkhdlaaGreatQ11
import Derived.Test.YtlanhclgbkhdlaaGreatQ08
import Derived.Test.YtlanhclgbkhdlaaGreatQ15
import Derived.Test.YtlanhclgbkhdlaaGreatQ12
import Derived.Test.YtlanhclgbkhdlaaGreatQ13
import Derived.Deep.RegionHeld3
import Derived.Deep.RegionLaw
namespace Go.Proofs.YtlanhclgbkhdlaaGreat
open Go.RowKit Go.My Go.Maps
set_option linter.unusedSimpArgs false
set_option linter.unusedVariables false

/-- an order's cells; its legs lie in memory as they came in with the world w0 -/
def OdR (w0 : World) (cs : List Value) (o : Od) : Prop := ∃ v, cs = o.cs v ∧ o.ok ∧ (∀ g ∈ o.legs, g.ok) ∧ LgS w0 (Lt w0.heap.size) v o.legs
/-- orders in a slice -/
def OdsS (w0 w : World) (F : Nat → Prop) (A : Option Addr) (l : List Od) : Prop := ∃ cells, Rd w F 10 A l.length cells ∧ Each (OdR w0) 10 cells l
section
variable {w0 w w' : World} {F G : Nat → Prop} {A : Option Addr} {l : List Od}
theorem OdsS.fr {S : Nat → Prop} (h : OdsS w0 w F A l) (hf : Fr S w w') (hn : ∀ k, F k → k < w.heap.size → ¬ S k) : OdsS w0 w' F A l := by
  obtain ⟨cells, hr, hE⟩ := h
  exact ⟨cells, hr.fr (by omega) hf hn, hE⟩
theorem OdsS.more (h : OdsS w0 w F A l) (hB : ∀ k, F k → G k) : OdsS w0 w G A l := by
  obtain ⟨cells, hr, hE⟩ := h
  exact ⟨cells, hr.more hB, hE⟩
theorem OdsS.below {B : Nat} (h : OdsS w0 w F A l) (hb : Below B w w') (hF : ∀ k, F k → k < B) : OdsS w0 w' F A l := by
  obtain ⟨cells, hr, hE⟩ := h
  exact ⟨cells, hr.below hb hF, hE⟩
theorem OdsS.ok (h : OdsS w0 w F A l) : ∀ o ∈ l, o.ok := fun o ho => by
  obtain ⟨cells, hr, hE⟩ := h
  obtain ⟨i, hi, rfl⟩ := List.getElem_of_mem ho
  obtain ⟨v, _, h1, _⟩ := hE.2 i _ (List.getElem?_eq_getElem hi)
  exact h1
/-- the order at k -/
theorem OdsS.at_ (h : OdsS w0 w F A l) (k : Nat) (hk : k < l.length) :
    ∃ ad v, A = some ad ∧ F ad.block ∧ l[k].ok ∧ (∀ g ∈ l[k].legs, g.ok) ∧ LgS w0 (Lt w0.heap.size) v l[k].legs ∧ w.cell? (ad.add (k * 10)) = some (.int .i64 l[k].cl) ∧ w.cell? ⟨(ad.add (k * 10)).block, (ad.add (k * 10)).off + 1, none⟩ = some (.int .i64 l[k].sq) ∧
      w.cell? ⟨(ad.add (k * 10)).block, (ad.add (k * 10)).off + 2, none⟩ = some (.int .i64 l[k].kd) ∧ w.cell? ⟨(ad.add (k * 10)).block, (ad.add (k * 10)).off + 3, none⟩ = some (.string l[k].acct) ∧
      w.cell? ⟨(ad.add (k * 10)).block, (ad.add (k * 10)).off + 4, none⟩ = some (.string l[k].peer) ∧ w.cell? ⟨(ad.add (k * 10)).block, (ad.add (k * 10)).off + 5, none⟩ = some (.int .i64 l[k].sum) ∧
      w.cell? ⟨(ad.add (k * 10)).block, (ad.add (k * 10)).off + 6, none⟩ = some v ∧ w.cell? ⟨(ad.add (k * 10)).block, (ad.add (k * 10)).off + 7, none⟩ = some (.int .i64 l[k].per) ∧
      w.cell? ⟨(ad.add (k * 10)).block, (ad.add (k * 10)).off + 8, none⟩ = some (.int .i64 l[k].hold) ∧ w.cell? ⟨(ad.add (k * 10)).block, (ad.add (k * 10)).off + 9, none⟩ = some (.string l[k].note) := by
  obtain ⟨cells, hr, hE⟩ := h
  obtain ⟨ad, rfl, hF, hc⟩ := hr.2 (by omega)
  obtain ⟨v, hcs, hok, hg, hL⟩ := hE.2 k l[k] (List.getElem?_eq_getElem hk)
  have hget : ∀ i, i < 10 → cells[k * 10 + i]? = (l[k].cs v)[i]? := fun i hi => by
    rw [← hcs, List.getElem?_take, if_pos hi, List.getElem?_drop]
  refine ⟨ad, v, rfl, hF, hok, hg, hL, hc (k * 10) _ (by have := hget 0 (by omega); rw [Nat.add_zero] at this; rw [this]; rfl), ?_, ?_, ?_, ?_, ?_, ?_, ?_, ?_, ?_⟩
  · rw [← add_lits ad (k * 10) 1 (by omega)]
    exact hc _ _ (by rw [hget 1 (by omega)]; rfl)
  · rw [← add_lits ad (k * 10) 2 (by omega)]
    exact hc _ _ (by rw [hget 2 (by omega)]; rfl)
  · rw [← add_lits ad (k * 10) 3 (by omega)]
    exact hc _ _ (by rw [hget 3 (by omega)]; rfl)
  · rw [← add_lits ad (k * 10) 4 (by omega)]
    exact hc _ _ (by rw [hget 4 (by omega)]; rfl)
  · rw [← add_lits ad (k * 10) 5 (by omega)]
    exact hc _ _ (by rw [hget 5 (by omega)]; rfl)
  · rw [← add_lits ad (k * 10) 6 (by omega)]
    exact hc _ _ (by rw [hget 6 (by omega)]; rfl)
  · rw [← add_lits ad (k * 10) 7 (by omega)]
    exact hc _ _ (by rw [hget 7 (by omega)]; rfl)
  · rw [← add_lits ad (k * 10) 8 (by omega)]
    exact hc _ _ (by rw [hget 8 (by omega)]; rfl)
  · rw [← add_lits ad (k * 10) 9 (by omega)]
    exact hc _ _ (by rw [hget 9 (by omega)]; rfl)
/-- legs stay as they came in -/
theorem LgS.keep0 {v : Value} {L : List Lg} (h : LgS w0 (Lt w0.heap.size) v L) (hb : Below w0.heap.size w0 w) : LgS w (Lt w0.heap.size) v L := h.below hb
/-- a row of orders -/
theorem Each.nilO (w0 : World) : Each (OdR w0) 10 [] [] := ⟨rfl, fun i x hx => by simp at hx⟩
theorem Each.snocO {w0 : World} {cells cs : List Value} {l : List Od} (h : Each (OdR w0) 10 cells l) {o : Od} (hl : cs.length = 10) (ho : OdR w0 cs o) : Each (OdR w0) 10 (cells ++ cs) (l ++ [o]) := by
  refine ⟨by rw [List.length_append, hl, h.1, List.length_append]; simp; omega, fun i x hx => ?_⟩
  by_cases hi : i < l.length
  · rw [List.getElem?_append_left hi] at hx
    have h1 := h.2 i x hx
    have h2 : i * 10 + 10 ≤ cells.length := by rw [h.1]; omega
    rw [List.drop_append_of_le_length (by omega), List.take_append_of_le_length (by rw [List.length_drop]; omega)]
    exact h1
  · rw [List.getElem?_append_right (by omega)] at hx
    have hi0 : i - l.length = 0 := by
      rcases Nat.eq_zero_or_pos (i - l.length) with h0 | h0
      · exact h0
      · rw [List.getElem?_eq_none (by simp; omega)] at hx; cases hx
    rw [hi0] at hx
    simp only [List.getElem?_cons_zero, Option.some.injEq] at hx
    subst hx
    have : i = l.length := by omega
    subst this
    rw [← h.1, List.drop_left, List.take_of_length_le (by omega)]
    exact ho
end
theorem elO : El Tryz.prog 22 31 10 120 := ⟨Tryz.underlying22, by
  have h : (Tryz.prog.info? 31).map (fun i => (i.zero, i.size, i.bytes)) = some (some (.agg #[.int .i64 0, .int .i64 0, .int .i64 0, .string ⟨#[]⟩, .string ⟨#[]⟩, .int .i64 0, .slice none 0 0, .int .i64 0, .int .i64 0, .string ⟨#[]⟩]), 10, 120) := by kernel_rfl
  obtain ⟨i, hi, hz, hs, hb⟩ := info_parts h
  exact ⟨i, _, hi, hz, hs, hb, rfl⟩, by omega⟩
theorem elR : El Tryz.prog 56 47 4 32 := ⟨Tryz.underlying56, by
  have h : (Tryz.prog.info? 47).map (fun i => (i.zero, i.size, i.bytes)) = some (some (.agg #[.int .i64 0, .int .i64 0, .int .i64 0, .int .i64 0]), 4, 32) := by kernel_rfl
  obtain ⟨i, hi, hz, hs, hb⟩ := info_parts h
  exact ⟨i, _, hi, hz, hs, hb, rfl⟩, by omega⟩
/-- replies as cells -/
def rpC (r : Rp) : List Value := [.int .i64 r.err, .int .i64 r.hv, .int .i64 r.st, .int .i64 r.num]
def rps (l : List Rp) : List Value := l.flatMap rpC
theorem rps_append (l m : List Rp) : rps (l ++ m) = rps l ++ rps m := by unfold rps; rw [List.flatMap_append]
theorem rps_one (r : Rp) : rps [r] = rpC r := by simp [rps]
theorem rps_length (l : List Rp) : (rps l).length = l.length * 4 := by
  induction l with
  | nil => rfl
  | cons a r ih => show (rpC a ++ rps r).length = _; rw [List.length_append, ih, List.length_cons]; simp [rpC]; omega
theorem rps_get (l : List Rp) : ∀ (k i : Nat) (hk : k < l.length), i < 4 → (rps l)[k * 4 + i]? = (rpC l[k])[i]? := by
  induction l with
  | nil => intro k i hk; simp at hk
  | cons a r ih =>
    intro k i hk hi
    show (rpC a ++ rps r)[k * 4 + i]? = _
    have ha : (rpC a).length = 4 := rfl
    cases k with
    | zero =>
      rw [Nat.zero_mul, Nat.zero_add, List.getElem?_append_left (by omega)]
      rfl
    | succ k =>
      rw [List.getElem?_append_right (by omega)]
      have : (k + 1) * 4 + i - (rpC a).length = k * 4 + i := by omega
      rw [this, ih k i (by simpa using hk) hi]
      rfl
/-- a reply in memory -/
theorem rp_at {w : World} {F : Nat → Prop} {A : Option Addr} {S : List Rp} (h : Rd w F 4 A S.length (rps S)) (k : Nat) (hk : k < S.length) :
    ∃ ad, A = some ad ∧ F ad.block ∧ w.cell? (ad.add (k * 4)) = some (.int .i64 S[k].err) ∧ w.cell? ⟨(ad.add (k * 4)).block, (ad.add (k * 4)).off + 1, none⟩ = some (.int .i64 S[k].hv) ∧
      w.cell? ⟨(ad.add (k * 4)).block, (ad.add (k * 4)).off + 2, none⟩ = some (.int .i64 S[k].st) ∧ w.cell? ⟨(ad.add (k * 4)).block, (ad.add (k * 4)).off + 3, none⟩ = some (.int .i64 S[k].num) := by
  obtain ⟨ad, rfl, hF, hc⟩ := h.2 (by omega)
  refine ⟨ad, rfl, hF, hc (k * 4) _ (by have := rps_get S k 0 hk (by omega); rw [Nat.add_zero] at this; rw [this]; rfl), ?_, ?_, ?_⟩
  · rw [← add_lits ad (k * 4) 1 (by omega)]
    exact hc _ _ (by rw [rps_get S k 1 hk (by omega)]; rfl)
  · rw [← add_lits ad (k * 4) 2 (by omega)]
    exact hc _ _ (by rw [rps_get S k 2 hk (by omega)]; rfl)
  · rw [← add_lits ad (k * 4) 3 (by omega)]
    exact hc _ _ (by rw [rps_get S k 3 hk (by omega)]; rfl)
section
open Go.ChangeShapes Go.WideShapes
variable {H : Type} {enc : TypeId × Value → H} {w : World} {base : Nat} {spare : Nat → Bool} {held : Bool}
/-- orders that came in -/
theorem open_ods {fuel : Nat} {cs : List Value} {x : DataW H × List MemPlace} (h : DataW.trod enc Tryz.prog w base spare held fuel 22 cs = some x) :
    ∃ (A : Option Addr) (c : Nat) (l : List Od), cs = [.slice A l.length c] ∧ OdsS w w (Lt w.heap.size) A l ∧ l.length ≤ c ∧ c ≤ maxLen := by
  obtain ⟨A, c, cells, l, h1, h2, h3, h4, h5⟩ := open_each (OdR w) Tryz.underlying22 (size := 10) (by kernel_rfl) (by omega) (fun n cs x hx => by
    obtain ⟨o, v, h1, h2, h3, h4⟩ := open_od hx
    exact ⟨o, v, h1, h2, h3, h4⟩) h
  exact ⟨A, c, l, h1, ⟨cells, h2, h5⟩, h3, h4⟩
end
end Go.Proofs.YtlanhclgbkhdlaaGreat

namespace Go.Proofs.YtlanhclgbkhdlaaGreat
open Go.RowKit Go.My Go.Maps
set_option linter.unusedSimpArgs false
set_option linter.unusedVariables false
attribute [local go_sem ↓] Go.wp_at_zero Go.wp_at_succ

/-- a row of replies is no block of a book -/
theorem own_farB {w : World} {q : Pl} {b : Bk} {v : Value} {n : Nat} {xs : List Value} (ho : Own w 47 4 v n xs) (h : BkS w q b) : ∀ i, q.all i → v.ownBlock ≠ some i := fun i hi hk => by
  obtain ⟨cur, hc⟩ := ho.blk i hk
  rcases hi with rfl | rfl | rfl | rfl | rfl
  · exact Blk.ne_ h.blk hc (by decide) rfl
  · exact Blk.ne_ h.ch.1 hc (by decide) rfl
  · exact h.ch.2.ne_ hc rfl
  · exact Blk.ne_ h.hd.1 hc (by decide) rfl
  · exact h.hd.2.ne_ hc rfl
def FoRel (w : World) (q : Pl) (l : List Od) (lv iv : Value) (wr : World) : Prop :=
  ∃ k : Nat, k ≤ l.length ∧ iv = .int .i64 k ∧ Own wr 47 4 lv k (rps (foldR bk0 (l.take k))) ∧ BkS wr q (foldB bk0 (l.take k)) ∧ Fr No w wr ∧ Newer w.heap.size none lv.ownBlock
theorem fold_take (b : Bk) (l : List Od) (k : Nat) (hk : k < l.length) : foldR b (l.take (k + 1)) = foldR b (l.take k) ++ [doR (foldB b (l.take k)) l[k]] ∧ foldB b (l.take (k + 1)) = doB (foldB b (l.take k)) l[k] := by
  rw [List.take_succ_eq_append_getElem hk]
  exact ⟨foldR_append _ _ _, foldB_append _ _ _⟩
/-- what Fold hands back: replies, and a book -/
def FoldRet (w : World) (l : List Od) (e : Ending) (w' : World) : Prop := ∃ A c q, e = .returned (.tuple #[.slice A l.length c, .pointer (some ⟨q.p, 0, none⟩)]) ∧ Rd w' (fun k => w.heap.size ≤ k) 4 A l.length (rps (foldR bk0 l)) ∧ BkS w' q (foldB bk0 l) ∧ Fr No w w' ∧ (∀ i, Pl.all q i → w.heap.size ≤ i) ∧ l.length ≤ c ∧ c ≤ maxLen
set_option maxRecDepth 100000 in
set_option maxHeartbeats 4000000 in
theorem fold_any (w0 w : World) (F : Nat → Prop) (A : Option Addr) (c : Nat) (l : List Od) (hl : OdsS w0 w F A l) (hb0 : Below w0.heap.size w0 w) (hlc : l.length ≤ 1000) :
    Calls Tryz.prog 22 #[.slice A l.length c] w (FoldRet w l) := by
  have HL : Hid (OdsS w0 w (Lt w.heap.size) A l) := by
    obtain ⟨cells, hr, hE⟩ := hl
    exact ⟨cells, rd_lt hr (by omega), hE⟩
  have HB0 := Lib.hid hb0
  have HNEW := Lib.hid (newB_any w)
  have hlm : l.length ≤ 1000 := hlc
  clear hl hb0 hlc
  go_enter Tryz.func22, Tryz.ntmps22
  go_wp2_with fail
  (with_reducible refine HNEW.out.mono ?_)
  rintro e w1 ⟨q, rfl, hb1, hf1, hq1⟩
  have HF1 := Lib.hid hf1
  have HQ := Lib.hid hq1
  have HB1 := Lib.hid hb1
  clear hf1 hq1 hb1 HNEW
  go_wp2
  go_loopw [5, 11] (fun lv iv wr => FoRel w q l lv iv wr) (fun _ iv _ => l.length - (intOf iv).toNat)
  case atStart => exact ⟨0, Nat.zero_le _, rfl, Own.nil _ _ _, HB1.out, HF1.out, .inl rfl⟩
  case round =>
    obtain ⟨k, hk, rfl, hown, hbk, hfr, hnew⟩ := hrel
    by_cases hlt : k < l.length
    · obtain ⟨ad, v, rfl, _, hok, hg, hL, q0, q1, q2, q3, q4, q5, q6, q7, q8, q9⟩ := (HL.out.below hfr.belowNo (fun _ h => h)).at_ k hlt
      obtain ⟨B, d, rfl, hd1, hd2⟩ := hL.form
      obtain ⟨E1, E2⟩ := fold_take bk0 l k hlt
      have hW : ∀ W, Fr No wr W → Below w0.heap.size w0 W := fun W h => (HB0.out.trans (hfr.belowNo.mono HB0.out.size)).trans (h.belowNo.mono (by have := hfr.size; have := HB0.out.size; omega))
      have hFF : ∀ W, Fr No wr W → ∀ k, Lt w0.heap.size k → k < W.heap.size ∧ k ≠ q.m := fun W h k hk => by
        have h1 : k < w0.heap.size := hk
        have h2 := (hW W h).size
        have h3 := HQ.out q.m (.inr (.inr (.inl rfl)))
        have h4 := HB0.out.size
        exact ⟨by omega, by omega⟩
      have HDO : Hid (∀ W, Fr No wr W → Calls Tryz.prog 31 #[.pointer (some ⟨q.p, 0, none⟩), l[k].val (.slice B l[k].legs.length d)] W (DidB q (doR (foldB bk0 (l.take k)) l[k]) (doB (foldB bk0 (l.take k)) l[k]) W)) := fun W h =>
        do_any _ q _ l[k] _ W (hbk.no h) hok (hL.below (hW W h)) (hFF W h)
      rw [← E2] at HDO
      generalize doR (foldB bk0 (l.take k)) l[k] = R at *
      obtain ⟨re, rh, rs, rn⟩ := R
      have HE1 : Hid (rps (foldR bk0 (l.take (k + 1))) = rps (foldR bk0 (l.take k)) ++ [.int .i64 re, .int .i64 rh, .int .i64 rs, .int .i64 rn]) := by
        show _ = _
        rw [E1, rps_append, rps_one]
        rfl
      have HDX : Hid (∀ W, Fr No wr W → Calls Tryz.prog 31 #[.pointer (some ⟨q.p, 0, none⟩), .agg #[.int .i64 l[k].cl, .int .i64 l[k].sq, .int .i64 l[k].kd, .string l[k].acct, .string l[k].peer, .int .i64 l[k].sum, .slice B l[k].legs.length d, .int .i64 l[k].per, .int .i64 l[k].hold, .string l[k].note]] W fun e w' => e = .returned (.agg #[.int .i64 re, .int .i64 rh, .int .i64 rs, .int .i64 rn]) ∧ BkS w' q (foldB bk0 (l.take (k + 1))) ∧ Fr q.wr W w') := fun W h => HDO.out W h
      have hX : Hid (k + 1 ≤ maxLen ∧ (k + 1) * 32 ≤ 140737488355328) := by
        refine ⟨?_, ?_⟩ <;> (try simp only [maxLen]) <;> omega
      have HBK := Lib.hid hbk
      have HFR := Lib.hid hfr
      have HOW := Lib.hid hown
      clear HDO E1 E2 hW hFF hok hg hL hbk hfr hown
      generalize hRS : foldR bk0 (l.take (k + 1)) = RS' at *
      have HRS := Lib.hid hRS
      clear hRS
      generalize foldR bk0 (l.take k) = RS at *
      generalize hbb : foldB bk0 (l.take (k + 1)) = bb' at *
      have HBB := Lib.hid hbb
      clear hbb
      generalize foldB bk0 (l.take k) = bb at *
      generalize l[k].legs = L at *
      generalize l[k].cl = cl at *
      generalize l[k].sq = sq at *
      generalize l[k].kd = kd at *
      generalize l[k].acct = acct at *
      generalize l[k].peer = peer at *
      generalize l[k].sum = sum at *
      generalize l[k].per = per at *
      generalize l[k].hold = hold at *
      generalize l[k].note = note at *
      go_wp2_with fail
      (with_reducible refine (HDX.out _ ((Fr.refl _ wr).alloc _)).mono ?_)
      rintro e w5 ⟨rfl, hb5, hg5⟩
      have hfar := own_farB HOW.out HBK.out
      have how5 := (HOW.out.alloc (.cells #[.int .i64 cl, .int .i64 sq, .int .i64 kd, .string acct, .string peer, .int .i64 sum, .slice B L.length d, .int .i64 per, .int .i64 hold, .string note] 31)).fr hg5 (fun i hi h => hfar i (Pl.wr_all h) hi)
      have HFAR := Lib.hid (own_farB how5 hb5)
      have HB5 := Lib.hid hb5
      have HW5 := Lib.hid how5
      have HF5 : Hid (Fr No w w5) := (HFR.out.alloc (.cells #[.int .i64 cl, .int .i64 sq, .int .i64 kd, .string acct, .string peer, .int .i64 sum, .slice B L.length d, .int .i64 per, .int .i64 hold, .string note] 31)).trans' hg5 (fun i hi hlt => absurd (HQ.out i (Pl.wr_all hi)) (by omega))
      clear hfar how5 hb5 hg5 q0 q1 q2 q3 q4 q5 q6 q7 q8 q9
      go_wp2_with (at_builtin; refine wpList_app _ rfl (.tmp 15) (.tmp 19) 56 56 rfl elR (HW5.out.alloc _) rfl (Src.of_new w5.heap.size (heap_alloc_new w5 _) Tryz.underlying56 rfl (by simp [Value.oneCell'])) rfl hX.out.1 hX.out.2 ?_; intro v1 w3 hown3 hfr3 hnew3)
      go_roundw
      case rel =>
        refine ⟨k + 1, by omega, by go_num, ?_, ?_, ?_, ?_⟩
        · rw [HRS.out, HE1.out]
          exact hown3
        · rw [HBB.out]
          exact (HB5.out.no ((Fr.refl _ _).alloc _)).fr hfr3 (fun i hi h => HFAR.out i hi h)
        · exact fr_no (HF5.out.alloc _) hnew hfr3
        · exact hnew.trans (Newer.of hnew3) (by have := HF5.out.size; simp; omega)
      case measure => simp [intOf]; omega
    · obtain rfl : k = l.length := by omega
      rw [List.take_length] at hown hbk
      obtain ⟨A1, c1, rfl, hl1, hm1⟩ := hown.form
      have HR := Lib.hid (hown.rd.more (G := fun k => w.heap.size ≤ k) fun k hk => newer_none hnew k hk)
      have HBK := Lib.hid hbk
      have HFR := Lib.hid hfr
      clear hown hbk hfr hnew
      go_wp2
      go_ret2
      exact ⟨A1, c1, q, rfl, HR.out, HBK.out, HFR.out, HQ.out, hl1, hm1⟩
end Go.Proofs.YtlanhclgbkhdlaaGreat

namespace Go.Proofs.YtlanhclgbkhdlaaGreat
open Go.RowKit Go.My Go.Maps
set_option linter.unusedSimpArgs false
set_option linter.unusedVariables false
attribute [local go_sem ↓] Go.wp_at_zero Go.wp_at_succ

theorem elE : El Tryz.prog 39 65 5 40 := ⟨Tryz.underlying39, by
  have h : (Tryz.prog.info? 65).map (fun i => (i.zero, i.size, i.bytes)) = some (some (.agg #[.int .i64 0, .int .i64 0, .int .i64 0, .int .i64 0, .int .i64 0]), 5, 40) := by kernel_rfl
  obtain ⟨i, hi, hz, hs, hb⟩ := info_parts h
  exact ⟨i, _, hi, hz, hs, hb, rfl⟩, by omega⟩
def evC (e : Ev) : List Value := [.int .i64 e.cl, .int .i64 e.sq, .int .i64 e.kd, .int .i64 e.hv, .int .i64 e.st]
def evs (l : List Ev) : List Value := l.flatMap evC
theorem evs_append (l m : List Ev) : evs (l ++ m) = evs l ++ evs m := by unfold evs; rw [List.flatMap_append]
theorem evs_one (e : Ev) : evs [e] = evC e := by simp [evs]
theorem evs_length (l : List Ev) : (evs l).length = l.length * 5 := by
  induction l with
  | nil => rfl
  | cons a r ih => show (evC a ++ evs r).length = _; rw [List.length_append, ih, List.length_cons]; simp [evC]; omega
theorem evs_ones (l : List Ev) : ∀ y ∈ evs l, y.oneCell' = true := fun y hy => by
  obtain ⟨e, _, h⟩ := List.mem_flatMap.1 hy
  unfold evC at h
  simp only [List.mem_cons, List.not_mem_nil, or_false] at h
  rcases h with rfl | rfl | rfl | rfl | rfl <;> rfl
theorem evs_get (l : List Ev) : ∀ (k i : Nat) (hk : k < l.length), i < 5 → (evs l)[k * 5 + i]? = (evC l[k])[i]? := by
  induction l with
  | nil => intro k i hk; simp at hk
  | cons a r ih =>
    intro k i hk hi
    show (evC a ++ evs r)[k * 5 + i]? = _
    have ha : (evC a).length = 5 := rfl
    cases k with
    | zero =>
      rw [Nat.zero_mul, Nat.zero_add, List.getElem?_append_left (by omega)]
      rfl
    | succ k =>
      rw [List.getElem?_append_right (by omega)]
      have : (k + 1) * 5 + i - (evC a).length = k * 5 + i := by omega
      rw [this, ih k i (by simpa using hk) hi]
      rfl
theorem evs_drop (l : List Ev) (k : Nat) : (evs l).drop (k * 5) = evs (l.drop k) := by
  induction k generalizing l with
  | zero => simp
  | succ k ih =>
    cases l with
    | nil => simp [evs]
    | cons a r =>
      show (evC a ++ evs r).drop ((k + 1) * 5) = evs (r.drop k)
      rw [← ih r, List.drop_append]
      have h1 : (evC a).length = 5 := rfl
      rw [h1, List.drop_eq_nil_of_le (by rw [h1]; omega), show (k + 1) * 5 - 5 = k * 5 by omega, List.nil_append]
theorem evs_take (l : List Ev) (k : Nat) : (evs l).take (k * 5) = evs (l.take k) := by
  induction k generalizing l with
  | zero => simp [evs]
  | succ k ih =>
    cases l with
    | nil => simp [evs]
    | cons a r =>
      show (evC a ++ evs r).take ((k + 1) * 5) = evC a ++ evs (r.take k)
      rw [← ih r, List.take_append]
      have h1 : (evC a).length = 5 := rfl
      rw [h1, List.take_of_length_le (by rw [h1]; omega), show (k + 1) * 5 - 5 = k * 5 by omega]
/-- an event in memory -/
theorem ev_at {w : World} {F : Nat → Prop} {A : Option Addr} {S : List Ev} (h : Rd w F 5 A S.length (evs S)) (k : Nat) (hk : k < S.length) :
    ∃ ad, A = some ad ∧ F ad.block ∧ w.cell? (ad.add (k * 5)) = some (.int .i64 S[k].cl) ∧ w.cell? ⟨(ad.add (k * 5)).block, (ad.add (k * 5)).off + 1, none⟩ = some (.int .i64 S[k].sq) ∧
      w.cell? ⟨(ad.add (k * 5)).block, (ad.add (k * 5)).off + 2, none⟩ = some (.int .i64 S[k].kd) ∧ w.cell? ⟨(ad.add (k * 5)).block, (ad.add (k * 5)).off + 3, none⟩ = some (.int .i64 S[k].hv) ∧
      w.cell? ⟨(ad.add (k * 5)).block, (ad.add (k * 5)).off + 4, none⟩ = some (.int .i64 S[k].st) := by
  obtain ⟨ad, rfl, hF, hc⟩ := h.2 (by omega)
  refine ⟨ad, rfl, hF, hc (k * 5) _ (by have := evs_get S k 0 hk (by omega); rw [Nat.add_zero] at this; rw [this]; rfl), ?_, ?_, ?_, ?_⟩
  · rw [← add_lits ad (k * 5) 1 (by omega)]
    exact hc _ _ (by rw [evs_get S k 1 hk (by omega)]; rfl)
  · rw [← add_lits ad (k * 5) 2 (by omega)]
    exact hc _ _ (by rw [evs_get S k 2 hk (by omega)]; rfl)
  · rw [← add_lits ad (k * 5) 3 (by omega)]
    exact hc _ _ (by rw [evs_get S k 3 hk (by omega)]; rfl)
  · rw [← add_lits ad (k * 5) 4 (by omega)]
    exact hc _ _ (by rw [evs_get S k 4 hk (by omega)]; rfl)

/-! ### a map of rows of events -/
def rowsOf (f : List UInt8 → Option Value) (i : Nat) : Prop := ∃ nm v, f nm = some v ∧ v.ownBlock = some i
def slOf (f : List UInt8 → Option Value) (nm : List UInt8) : Value := (f nm).getD (.slice none 0 0)
structure EvS (w : World) (m c : Nat) (f : List UInt8 → Option Value) (E : List UInt8 → List Ev) : Prop where
  tab : TabS Tryz.prog 9 w m c f
  row : ∀ nm v, f nm = some v → Own w 65 5 v (E nm).length (evs (E nm))
  no : ∀ nm, f nm = none → E nm = []
  apart : ∀ a b va vb, f a = some va → f b = some vb → a ≠ b → ∀ k, va.ownBlock = some k → vb.ownBlock ≠ some k
/-- the map's blocks -/
def evB (m : Nat) (f : List UInt8 → Option Value) (i : Nat) : Prop := i = m ∨ rowsOf f i
section
variable {w w' : World} {m c : Nat} {f : List UInt8 → Option Value} {E : List UInt8 → List Ev}
theorem EvS.sl (h : EvS w m c f E) (nm : List UInt8) : Own w 65 5 (slOf f nm) (E nm).length (evs (E nm)) := by
  unfold slOf
  cases hf : f nm with
  | none =>
    rw [h.no nm hf]
    exact Own.nil _ _ _
  | some v => exact h.row nm v hf
theorem EvS.fr {F : Nat → Prop} (h : EvS w m c f E) (hf : Fr F w w') (hn : ∀ i, evB m f i → ¬ F i) : EvS w' m c f E :=
  ⟨h.tab.fr hf (hn m (.inl rfl)), fun nm v hv => (h.row nm v hv).fr hf (fun k hk => hn k (.inr ⟨nm, v, hv, hk⟩)), h.no, h.apart⟩
theorem EvS.noF (h : EvS w m c f E) (hf : Fr No w w') : EvS w' m c f E := h.fr hf (fun _ _ h => h)
theorem EvS.far (h : EvS w m c f E) {g : Nat} {t : TypeId} {cs : Array Value} (hg : Blk w g t cs) (ht : t ≠ 65) : ¬ evB m f g := by
  rintro (e | ⟨nm, v, hv, hk⟩)
  · exact h.tab.ne_ hg e.symm
  · obtain ⟨cur, hc⟩ := (h.row nm v hv).blk g hk
    exact Blk.ne_ hg hc ht rfl
theorem EvS.farO (h : EvS w m c f E) {t : TypeId} {size n : Nat} {v : Value} {xs : List Value} (ho : Own w t size v n xs) (ht : t ≠ 65) : ∀ k, v.ownBlock = some k → ¬ evB m f k := fun k hk => by
  obtain ⟨cur, hc⟩ := ho.blk k hk
  exact h.far hc ht
theorem EvS.farT (h : EvS w m c f E) {kt : TypeId} {r k : Nat} {g : List UInt8 → Option Value} (hg : TabS Tryz.prog kt w r k g) (hne : r ≠ m) : ¬ evB m f r := by
  rintro (e | ⟨nm, v, hv, hk⟩)
  · exact hne e
  · obtain ⟨cur, hc⟩ := (h.row nm v hv).blk r hk
    exact hg.ne_ hc rfl
theorem EvS.lt (h : EvS w m c f E) : ∀ i, evB m f i → i < w.heap.size := fun i hi => by
  rcases hi with rfl | ⟨nm, v, hv, hk⟩
  · exact h.tab.lt
  · exact (h.row nm v hv).lt i hk
theorem EvS.slB (h : EvS w m c f E) (nm : List UInt8) : ∀ k, (slOf f nm).ownBlock = some k → evB m f k ∧ k ≠ m := fun k hk => by
  unfold slOf at hk
  cases hf : f nm with
  | none => rw [hf] at hk; simp [Value.ownBlock] at hk
  | some v =>
    rw [hf] at hk
    refine ⟨.inr ⟨nm, v, hf, hk⟩, fun e => ?_⟩
    obtain ⟨cur, hc⟩ := (h.row nm v hf).blk k hk
    exact h.tab.ne_ hc e.symm
/-- an event more -/
theorem EvS.app (h : EvS w m c f E) (nm : List UInt8) (e : Ev) {v' : Value} {w1 w2 : World} {c' : Nat} (ho : Own w1 65 5 v' ((E nm).length + 1) (evs (E nm) ++ evC e)) (hf : Fr (AtO (slOf f nm).ownBlock) w w1)
    (hl : v'.ownBlock = (slOf f nm).ownBlock ∨ v'.ownBlock = some w.heap.size) (ht : TabS Tryz.prog 9 w2 m c' (upd f nm v')) (hf2 : Fr (At1 m) w1 w2) :
    EvS w2 m c' (upd f nm v') (fun j => if j = nm then E j ++ [e] else E j) ∧ Fr (evB m f) w w2 ∧ ∀ i, evB m (upd f nm v') i → evB m f i ∨ w.heap.size ≤ i := by
  have hm := h.tab.lt
  have hv' : ∀ k, v'.ownBlock = some k → (evB m f k ∧ (slOf f nm).ownBlock = some k ∧ k ≠ m) ∨ k = w.heap.size := fun k hk => by
    rcases hl with e1 | e1
    · rw [e1] at hk
      exact .inl ⟨(h.slB nm k hk).1, hk, (h.slB nm k hk).2⟩
    · rw [e1] at hk
      injection hk with hk
      exact .inr hk.symm
  have hvm : ∀ k, v'.ownBlock = some k → k ≠ m := fun k hk => by
    rcases hv' k hk with h1 | h1
    · exact h1.2.2
    · omega
  refine ⟨⟨ht, fun j v hv => ?_, fun j hj => ?_, fun a b va vb ha hb hne k hk => ?_⟩, ?_, fun i hi => ?_⟩
  · unfold upd at hv
    by_cases e1 : j = nm
    · rw [if_pos e1] at hv
      injection hv with hv
      subst hv
      subst e1
      simp only [if_true]
      rw [evs_append, evs_one, List.length_append]
      exact ho.fr hf2 (fun k hk => hvm k hk)
    · rw [if_neg e1] at hv
      simp only [if_neg e1]
      refine ((h.row j v hv).fr hf (fun k hk e2 => ?_)).fr hf2 (fun k hk e2 => ?_)
      · have e2 : (slOf f nm).ownBlock = some k := e2
        unfold slOf at e2
        cases hn : f nm with
        | none => rw [hn] at e2; simp [Value.ownBlock] at e2
        | some u =>
          rw [hn] at e2
          exact h.apart nm j u v hn hv (fun e => e1 e.symm) k e2 hk
      · have e2 : k = m := e2
        obtain ⟨cur, hc⟩ := (h.row j v hv).blk k hk
        exact h.tab.ne_ hc e2.symm
  · unfold upd at hj
    by_cases e1 : j = nm
    · rw [if_pos e1] at hj
      cases hj
    · rw [if_neg e1] at hj
      simp only [if_neg e1]
      exact h.no j hj
  · unfold upd at ha hb
    have other : ∀ j v, f j = some v → j ≠ nm → ∀ k, v.ownBlock = some k → v'.ownBlock ≠ some k := fun j v hv hj k hk e2 => by
      rcases hv' k e2 with ⟨_, h2, _⟩ | h1
      · unfold slOf at h2
        cases hn : f nm with
        | none => rw [hn] at h2; simp [Value.ownBlock] at h2
        | some u =>
          rw [hn] at h2
          exact h.apart nm j u v hn hv (fun e => hj e.symm) k h2 hk
      · have := (h.row j v hv).lt k hk
        omega
    by_cases e1 : a = nm
    · rw [if_pos e1] at ha
      injection ha with ha
      subst ha
      have e2 : b ≠ nm := fun e => hne (e1.trans e.symm)
      rw [if_neg e2] at hb
      exact fun hk2 => other b vb hb e2 k hk2 hk
    · rw [if_neg e1] at ha
      by_cases e2 : b = nm
      · rw [if_pos e2] at hb
        injection hb with hb
        subst hb
        exact other a va ha e1 k hk
      · rw [if_neg e2] at hb
        exact h.apart a b va vb ha hb hne k hk
  · refine (hf.mono fun k hk h1 => ?_).trans' hf2 fun i hi hlt => .inl hi
    exact (h.slB nm k h1).1
  · rcases hi with e1 | ⟨j, v, hv, hk⟩
    · exact .inl (.inl e1)
    · unfold upd at hv
      by_cases e1 : j = nm
      · rw [if_pos e1] at hv
        injection hv with hv
        subst hv
        rcases hv' i hk with h1 | h1
        · exact .inl h1.1
        · exact .inr (by omega)
      · rw [if_neg e1] at hv
        exact .inl (.inr ⟨j, v, hv, hk⟩)
theorem EvS.congr {E' : List UInt8 → List Ev} (h : EvS w m c f E) (he : ∀ nm, E nm = E' nm) : EvS w m c f E' := by
  have : E = E' := funext he
  rw [← this]
  exact h
end

/-! ### a desk -/
/-- a reader: its account, how many it has taken -/
abbrev Rdr := ByteArray × Nat
def rdV (r : Rdr) : Value := .agg #[.string r.1, .int .i64 (r.2 : Int)]
def rdT (g : List UInt8 → Option Rdr) : List UInt8 → Option Value := fun nm => (g nm).map rdV
structure Dp where
  p : Nat
  q : Pl
  m : Nat
  r : Nat
structure DkS (w : World) (d : Dp) (f : List UInt8 → Option Value) (N : Nat) (b : Bk) (E : List UInt8 → List Ev) (k : Nat) (g : List UInt8 → Option Rdr) : Prop where
  blk : Blk w d.p 77 #[.pointer (some ⟨d.q.p, 0, none⟩), .map (some d.m), .map (some d.r)]
  bk : BkS w d.q b
  ev : ∃ c, c ≤ N ∧ EvS w d.m c f E
  rd : TabS Tryz.prog 9 w d.r k (rdT g)
  mr : d.r ≠ d.m
  qm : ¬ d.q.all d.m
  qr : ¬ d.q.all d.r
  tk : ∀ nm r, g nm = some r → r.1.size ≤ maxLen ∧ r.2 ≤ (E r.1.data.toList).length
/-- all its blocks -/
def Dp.all (d : Dp) (f : List UInt8 → Option Value) (i : Nat) : Prop := i = d.p ∨ d.q.all i ∨ evB d.m f i ∨ i = d.r
/-- what Do writes -/
def Dp.wr (d : Dp) (f : List UInt8 → Option Value) (i : Nat) : Prop := d.q.wr i ∨ evB d.m f i
section
variable {w w' : World} {d : Dp} {f : List UInt8 → Option Value} {N : Nat} {b : Bk} {E : List UInt8 → List Ev} {k : Nat} {g : List UInt8 → Option Rdr}
theorem Dp.wr_all {i : Nat} (h : d.wr f i) : d.all f i := by
  rcases h with h | h
  · exact .inr (.inl (Pl.wr_all h))
  · exact .inr (.inr (.inl h))
theorem DkS.fr {F : Nat → Prop} (h : DkS w d f N b E k g) (hf : Fr F w w') (hn : ∀ i, d.all f i → ¬ F i) : DkS w' d f N b E k g := by
  obtain ⟨c, hc, he⟩ := h.ev
  exact ⟨h.blk.fr hf (hn _ (.inl rfl)), h.bk.fr hf (fun i hi => hn i (.inr (.inl hi))), ⟨c, hc, he.fr hf (fun i hi => hn i (.inr (.inr (.inl hi))))⟩, h.rd.fr hf (hn _ (.inr (.inr (.inr rfl)))), h.mr, h.qm, h.qr, h.tk⟩
theorem DkS.no (h : DkS w d f N b E k g) (hf : Fr No w w') : DkS w' d f N b E k g := h.fr hf (fun _ _ h => h)
theorem DkS.lt (h : DkS w d f N b E k g) : ∀ i, d.all f i → i < w.heap.size := fun i hi => by
  obtain ⟨c, hc, he⟩ := h.ev
  rcases hi with rfl | hi | hi | rfl
  · exact h.blk.lt
  · exact h.bk.lt i hi
  · exact he.lt i hi
  · exact h.rd.lt
/-- a book's block is no desk's -/
theorem DkS.qp (h : DkS w d f N b E k g) : ¬ d.q.all d.p := fun hi => by
  rcases hi with e | e | e | e | e
  · exact Blk.ne_ h.blk h.bk.blk (by decide) e
  · exact Blk.ne_ h.blk h.bk.ch.1 (by decide) e
  · exact h.bk.ch.2.ne_ h.blk e.symm
  · exact Blk.ne_ h.blk h.bk.hd.1 (by decide) e
  · exact h.bk.hd.2.ne_ h.blk e.symm
theorem DkS.qe (h : DkS w d f N b E k g) : ∀ i, d.q.all i → ¬ evB d.m f i := fun i hi he => by
  obtain ⟨c, hc, hv⟩ := h.ev
  rcases he with e | ⟨nm, v, hx, hk⟩
  · exact h.qm (e ▸ hi)
  · obtain ⟨cur, hb⟩ := (hv.row nm v hx).blk i hk
    rcases hi with e | e | e | e | e
    · exact Blk.ne_ hb h.bk.blk (by decide) e
    · exact Blk.ne_ hb h.bk.ch.1 (by decide) e
    · exact h.bk.ch.2.ne_ hb e.symm
    · exact Blk.ne_ hb h.bk.hd.1 (by decide) e
    · exact h.bk.hd.2.ne_ hb e.symm
/-- what is written of the book is not what else the desk has -/
theorem DkS.wr_p (h : DkS w d f N b E k g) : ¬ d.wr f d.p := fun e => by
  obtain ⟨c, hc, hv⟩ := h.ev
  rcases e with e | e
  · exact h.qp (Pl.wr_all e)
  · exact hv.far h.blk (by decide) e
theorem DkS.wr_r (h : DkS w d f N b E k g) : ¬ d.wr f d.r := fun e => by
  obtain ⟨c, hc, hv⟩ := h.ev
  rcases e with e | e
  · exact h.qr (Pl.wr_all e)
  · exact hv.farT h.rd h.mr e
/-- only the map of readers has changed -/
theorem DkS.read (h : DkS w d f N b E k g) (hf : Fr (At1 d.r) w w') {k' : Nat} {g' : List UInt8 → Option Rdr} (ht : TabS Tryz.prog 9 w' d.r k' (rdT g')) (htk : ∀ nm r, g' nm = some r → r.1.size ≤ maxLen ∧ r.2 ≤ (E r.1.data.toList).length) : DkS w' d f N b E k' g' := by
  obtain ⟨c, hc, hv⟩ := h.ev
  exact ⟨h.blk.fr hf (fun e => h.rd.ne_ h.blk (show d.p = d.r from e).symm), h.bk.fr hf (fun i hi e => h.qr ((show i = d.r from e) ▸ hi)), ⟨c, hc, hv.fr hf (fun i hi e => hv.farT h.rd h.mr ((show i = d.r from e) ▸ hi))⟩, ht, h.mr, h.qm, h.qr, htk⟩
theorem rdT_upd (g : List UInt8 → Option Rdr) (nm : List UInt8) (r : Rdr) : upd (rdT g) nm (rdV r) = rdT (fun j => if j = nm then some r else g j) := by
  funext j
  unfold upd rdT
  by_cases e : j = nm
  · simp only [if_pos e]; rfl
  · simp only [if_neg e]
theorem rdT_none {nm : List UInt8} (h : g nm = none) : rdT g nm = none := by unfold rdT; rw [h]; rfl
theorem rdT_some {nm : List UInt8} {r : Rdr} (h : g nm = some r) : rdT g nm = some (.agg #[.string r.1, .int .i64 (r.2 : Int)]) := by unfold rdT; rw [h]; rfl
end
theorem zeroE (w : World) : (zeroValue 39).run Tryz.prog w = .ok (.slice none 0 0) w := by kernel_rfl
theorem zeroR (w : World) : (zeroValue 80).run Tryz.prog w = .ok (.agg #[.string ByteArray.empty, .int .i64 0]) w := by kernel_rfl
theorem EvS.look {w : World} {m c : Nat} {f : List UInt8 → Option Value} {E : List UInt8 → List Ev} (h : EvS w m c f E) (s : ByteArray) (hs : s.size ≤ maxLen) :
    (Instr.lookup 74 (.map (some m)) (.string s) false).run Tryz.prog w = .ok (slOf f s.data.toList) w := h.tab.look Tryz.underlying9 Tryz.underlying74 (zeroE w) s hs
end Go.Proofs.YtlanhclgbkhdlaaGreat

namespace Go.Proofs.YtlanhclgbkhdlaaGreat
open Go.RowKit Go.My Go.Maps
set_option linter.unusedSimpArgs false
set_option linter.unusedVariables false
attribute [local go_sem ↓] Go.wp_at_zero Go.wp_at_succ

def noEv : List UInt8 → List Ev := fun _ => []
def noRd : List UInt8 → Option Rdr := fun _ => none
def noF : List UInt8 → Option Value := fun _ => none
set_option maxRecDepth 100000 in
set_option maxHeartbeats 1000000 in
theorem dnew_any (w : World) : Calls Tryz.prog 14 #[] w fun e w' => ∃ d : Dp, e = .returned (.pointer (some ⟨d.p, 0, none⟩)) ∧ DkS w' d noF 0 bk0 noEv 0 noRd ∧ Fr No w w' ∧ ∀ i, d.all noF i → w.heap.size ≤ i := by
  have hmm := @run_makeMap Tryz.prog
  go_enter Tryz.func14, Tryz.ntmps14
  go_wp2_with fail
  refine (newB_any _).mono ?_
  rintro e w1 ⟨q, rfl, hb1, hf1, hq⟩
  have HB1 := Lib.hid hb1
  have HF1 := Lib.hid hf1
  have HQ := Lib.hid hq
  clear hb1 hf1 hq
  go_wp2
  go_ret
  have t1 : TabS Tryz.prog 9 (w1.alloc (.map #[] 0)) w1.heap.size 0 noF := TabS.made w1
  have t2 : TabS Tryz.prog 9 ((w1.alloc (.map #[] 0)).alloc (.map #[] 0)) (w1.heap.size + 1) 0 noF := by
    have := TabS.made (P := Tryz.prog) (kt := 9) (w1.alloc (.map #[] 0))
    rw [World.size_alloc] at this
    exact this
  have hbk := Blk.new ((w1.alloc (.map #[] 0)).alloc (.map #[] 0)) 77 #[.pointer (some ⟨q.p, 0, none⟩), .map (some w1.heap.size), .map (some (w1.heap.size + 1))]
  rw [World.size_alloc, World.size_alloc] at hbk
  have hF : Fr No w1 (((w1.alloc (.map #[] 0)).alloc (.map #[] 0)).alloc (.cells #[.pointer (some ⟨q.p, 0, none⟩), .map (some w1.heap.size), .map (some (w1.heap.size + 1))] 77)) := (((Fr.refl _ _).alloc _).alloc _).alloc _
  have hlt := HB1.out.lt
  have hs := HF1.out.size
  refine ⟨⟨w1.heap.size + 1 + 1, q, w1.heap.size, w1.heap.size + 1⟩, by simp, ⟨hbk, HB1.out.no hF, ⟨0, Nat.le_refl _, ?_, (fun nm v h => by cases h), (fun _ _ => rfl), (fun a b va vb h => by cases h)⟩, ?_, by simp, (fun h => by have := hlt _ h; simp at this), (fun h => by have := hlt _ h; simp at this; omega), (fun nm r h => by cases h)⟩, HF1.out.trans hF, fun i hi => ?_⟩
  · exact (t1.fr ((Fr.refl No _).alloc _) (fun h => h)).fr ((Fr.refl No _).alloc _) (fun h => h)
  · exact t2.fr ((Fr.refl No _).alloc _) (fun h => h)
  · rcases hi with e | e | (e | ⟨nm, v, hv, _⟩) | e
    · simp only at e; omega
    · exact HQ.out i e
    · simp only at e; omega
    · cases hv
    · simp only at e; omega

/-- which error a reader's name has, and what it has -/
def findE (g : List UInt8 → Option Rdr) (nm : List UInt8) : Int := if (g nm).isSome then 0 else 6
set_option maxRecDepth 100000 in
set_option maxHeartbeats 1000000 in
theorem find_none {d : Dp} {f : List UInt8 → Option Value} {N : Nat} {b : Bk} {E : List UInt8 → List Ev} {k : Nat} {g : List UInt8 → Option Rdr} (s : ByteArray) (w : World) (h : DkS w d f N b E k g) (hs : s.size ≤ maxLen) (hg : g s.data.toList = none) :
    Calls Tryz.prog 33 #[.pointer (some ⟨d.p, 0, none⟩), .string s] w fun e w' => e = .returned (.tuple #[.agg #[.string ⟨#[]⟩, .int .i64 0], .int .i64 6]) ∧ Fr No w w' := by
  have x2 := h.blk.alloc (.cells #[.string ⟨#[]⟩, .int .i64 0] 80)
  have x3 := x2.cell 2
  have hl := fun (W : World) (hW : Fr No w W) => ((h.rd.fr (w' := W) hW (fun h => h)).look_ok Tryz.underlying9 Tryz.underlying75 (zeroR W) s hs)
  rw [rdT_none hg] at hl
  simp only [Option.getD_none, Option.isSome_none] at hl
  have hl1 := hl _ ((Fr.refl No w).alloc (.cells #[.string ⟨#[]⟩, .int .i64 0] 80))
  have hlt := h.blk.lt
  simp only [List.getElem?_toArray, List.getElem?_cons_zero, List.getElem?_cons_succ] at x3
  clear x2 hl h hg
  go_enter Tryz.func33, Tryz.ntmps33
  go_wp2
  have hz := (Blk.new w 80 #[.string ⟨#[]⟩, .int .i64 0]).alloc (.cells #[.string ByteArray.empty, .int .i64 0] 80)
  have z0 := hz.cell 0
  have z1 := hz.cell 1
  simp only [List.getElem?_toArray, List.getElem?_cons_zero, List.getElem?_cons_succ] at z0 z1
  refine bodyPost_ret (v := .tuple #[.agg #[.string ⟨#[]⟩, .int .i64 0], .int .i64 6]) (by simp [results, Tryz.results33, go_sem, z0, z1]) rfl ?_
  exact ⟨rfl, ((Fr.refl _ _).alloc _).alloc _⟩
set_option maxRecDepth 100000 in
set_option maxHeartbeats 1000000 in
theorem find_some {d : Dp} {f : List UInt8 → Option Value} {N : Nat} {b : Bk} {E : List UInt8 → List Ev} {k : Nat} {g : List UInt8 → Option Rdr} (s : ByteArray) (w : World) (h : DkS w d f N b E k g) (hs : s.size ≤ maxLen) {a : ByteArray} {t : Nat} (hg : g s.data.toList = some (a, t)) :
    Calls Tryz.prog 33 #[.pointer (some ⟨d.p, 0, none⟩), .string s] w fun e w' => e = .returned (.tuple #[.agg #[.string a, .int .i64 (t : Int)], .int .i64 0]) ∧ Fr No w w' := by
  have x2 := h.blk.alloc (.cells #[.string ⟨#[]⟩, .int .i64 0] 80)
  have x3 := x2.cell 2
  have hl := fun (W : World) (hW : Fr No w W) => ((h.rd.fr (w' := W) hW (fun h => h)).look_ok Tryz.underlying9 Tryz.underlying75 (zeroR W) s hs)
  rw [rdT_some hg] at hl
  simp only [Option.getD_some, Option.isSome_some] at hl
  have hl1 := hl _ ((Fr.refl No w).alloc (.cells #[.string ⟨#[]⟩, .int .i64 0] 80))
  have hlt := h.blk.lt
  simp only [List.getElem?_toArray, List.getElem?_cons_zero, List.getElem?_cons_succ] at x3
  have hz := (Blk.new w 80 #[.string ⟨#[]⟩, .int .i64 0]).alloc (.cells #[.string a, .int .i64 (t : Int)] 80)
  have hy := Blk.new (w.alloc (.cells #[.string ⟨#[]⟩, .int .i64 0] 80)) 80 #[.string a, .int .i64 (t : Int)]
  rw [World.size_alloc] at hy
  have z0 := hz.cell 0
  have z1 := hz.cell 1
  have f0 := hz.frozen 0
  have f1 := hz.frozen 1
  have y0 := hy.cell 0
  have y1 := hy.cell 1
  simp only [List.getElem?_toArray, List.getElem?_cons_zero, List.getElem?_cons_succ] at z0 z1 y0 y1
  have HZ := Lib.hid hz
  clear x2 hl h hg hz hy
  go_enter Tryz.func33, Tryz.ntmps33
  go_wp2
  have hx := (HZ.out.set_ 0 (.string a)).set_ 1 (.int .i64 (t : Int))
  have u0 := hx.cell 0
  have u1 := hx.cell 1
  simp at u0 u1
  refine bodyPost_ret (v := .tuple #[.agg #[.string a, .int .i64 (t : Int)], .int .i64 0]) (by simp [results, Tryz.results33, go_sem, u0, u1]) rfl ?_
  exact ⟨rfl, ((Fr.refl No w).alloc _).alloc _⟩
theorem find_nil (s : ByteArray) (w : World) : Calls Tryz.prog 33 #[.pointer none, .string s] w fun e w' => e = .returned (.tuple #[.agg #[.string ⟨#[]⟩, .int .i64 0], .int .i64 1]) ∧ Fr No w w' := by
  have hz := Blk.new w 80 #[.string ⟨#[]⟩, .int .i64 0]
  have z0 := hz.cell 0
  have z1 := hz.cell 1
  simp only [List.getElem?_toArray, List.getElem?_cons_zero, List.getElem?_cons_succ] at z0 z1
  clear hz
  go_enter Tryz.func33, Tryz.ntmps33
  go_wp2
  refine bodyPost_ret (v := .tuple #[.agg #[.string ⟨#[]⟩, .int .i64 0], .int .i64 1]) (by simp [results, Tryz.results33, go_sem, z0, z1]) rfl ?_
  exact ⟨rfl, (Fr.refl _ _).alloc _⟩

/-! ### copies of events -/
theorem cloneE_any (F : Nat → Prop) (A : Option Addr) (c : Nat) (l : List Ev) (w : World) (hr : Rd w F 5 A l.length (evs l)) (hl : l.length ≤ 1000000) :
    Calls Tryz.prog 34 #[.slice A l.length c] w (RetOwn w 65 5 none l.length (evs l)) := by
  have hnil := fun W => Lib.run_eql_slice_nil (P := Tryz.prog) W 39 65 A l.length c 0 0 Tryz.underlying39
  rcases A with _ | ad
  · have hl0 : l.length = 0 := by
      rcases Nat.eq_zero_or_pos l.length with h0 | h0
      · exact h0
      · obtain ⟨ad, h, _⟩ := hr.2 h0
        cases h
    have : l = [] := List.eq_nil_of_length_eq_zero hl0
    subst this
    simp only [Option.isNone_none, List.length_nil] at hnil
    clear hr
    go_enter Tryz.func34, Tryz.ntmps34
    go_wp2
    go_ret
    exact ⟨_, rfl, Own.nil _ _ _, Fr.refl _ _, .inl rfl⟩
  · simp only [Option.isNone_some] at hnil
    have hmt : Own (w.alloc (.cells #[] 65)) 65 5 (.slice (some ⟨w.heap.size, 0, none⟩) 0 0) 0 [] := ⟨by simp, .inr ⟨w.heap.size, 0, #[], rfl, heap_alloc_new w _, by omega, by simp only [maxLen]; omega, by simp, by simp⟩⟩
    have hsrc : Src Tryz.prog (w.alloc (.cells #[] 65)) 5 39 (.slice (some ad) l.length c) l.length (evs l) :=
      Src.of_rd (hr.fr (S := No) (by omega) ((Fr.refl _ _).alloc _) (fun _ _ _ h => h)) (evs_ones l) Tryz.underlying39
    have HM := Lib.hid hmt
    have HR := Lib.hid hsrc
    have HS := Lib.hid hl
    clear hr hmt hsrc hl
    go_enter Tryz.func34, Tryz.ntmps34
    go_wp2_with (at_builtin; refine wpList_app _ rfl (.tmp 5) (.tmp 6) 39 39 rfl elE HM.out rfl HR.out rfl (by simp only [maxLen]; have := HS.out; omega) (by have := HS.out; omega) ?_; intro v1 w1 ho1 hf1 hn1)
    go_ret
    rw [Nat.zero_add, List.nil_append] at ho1
    refine ⟨v1, rfl, ho1, ?_, ?_⟩
    · exact (((Fr.refl No w).alloc (.cells #[] 65)).trans' hf1 (fun i hi hlt => by
        simp only [AtO, Value.ownBlock, Option.some.injEq] at hi
        omega)).mono fun _ _ h => False.elim h
    · rcases hn1 with h1 | h1
      · rw [h1]
        exact .inr ⟨_, rfl, Nat.le_refl _⟩
      · rw [h1, World.size_alloc]
        exact .inr ⟨_, rfl, by omega⟩
end Go.Proofs.YtlanhclgbkhdlaaGreat

namespace Go.Proofs.YtlanhclgbkhdlaaGreat
open Go.RowKit Go.My Go.Maps
set_option linter.unusedSimpArgs false
set_option linter.unusedVariables false
attribute [local go_sem ↓] Go.wp_at_zero Go.wp_at_succ

section
variable {d : Dp} {f : List UInt8 → Option Value} {N : Nat} {b : Bk} {E : List UInt8 → List Ev} {k : Nat} {g : List UInt8 → Option Rdr}
theorem dof_any (s : ByteArray) (w : World) (h : DkS w d f N b E k g) (hs : s.size ≤ maxLen) (hl : (E s.data.toList).length ≤ 1000000) :
    Calls Tryz.prog 19 #[.pointer (some ⟨d.p, 0, none⟩), .string s] w (RetOwn w 65 5 none (E s.data.toList).length (evs (E s.data.toList))) := by
  obtain ⟨c, hc, hv⟩ := h.ev
  have hk := hv.look s hs
  have hsl := hv.sl s.data.toList
  obtain ⟨A, c1, hA, -, -⟩ := hsl.form
  rw [hA] at hk hsl
  have HC := Lib.hid (cloneE_any _ A c1 _ w hsl.rd hl)
  have x1 := h.blk.cell 1
  simp only [List.getElem?_toArray, List.getElem?_cons_zero, List.getElem?_cons_succ] at x1
  clear h hv hsl hl hA hc
  go_enter Tryz.func19, Tryz.ntmps19
  go_wp2_with fail
  refine HC.out.mono ?_
  rintro e w1 ⟨v, rfl, ho, hf, hn⟩
  have HO := Lib.hid ho
  have HF := Lib.hid hf
  have HN := Lib.hid hn
  clear ho hf hn HC
  go_wp2
  go_ret
  exact ⟨v, rfl, HO.out, HF.out, HN.out⟩
theorem dof_nil (s : ByteArray) (w : World) : Calls Tryz.prog 19 #[.pointer none, .string s] w fun e w' => e = .returned (.slice none 0 0) ∧ w' = w := by
  go_enter Tryz.func19, Tryz.ntmps19
  go_wp2
  go_ret
  exact ⟨rfl, rfl⟩
theorem dbook_any (w : World) (h : DkS w d f N b E k g) : Calls Tryz.prog 24 #[.pointer (some ⟨d.p, 0, none⟩)] w (NewB w b) := by
  have HC := Lib.hid (bcopy_any d.q b w h.bk)
  have x0 := h.blk.cell 0
  simp only [List.getElem?_toArray, List.getElem?_cons_zero, List.getElem?_cons_succ] at x0
  clear h
  go_enter Tryz.func24, Tryz.ntmps24
  go_wp2_with fail
  refine HC.out.mono ?_
  rintro e w1 ⟨q, rfl, hb⟩
  go_wp2
  go_ret
  exact ⟨q, rfl, hb⟩
theorem dbook_nil (w : World) : Calls Tryz.prog 24 #[.pointer none] w fun e w' => e = .returned (.pointer none) ∧ w' = w := by
  go_enter Tryz.func24, Tryz.ntmps24
  go_wp2
  go_ret
  exact ⟨rfl, rfl⟩
theorem at_none (s : ByteArray) (w : World) (h : DkS w d f N b E k g) (hs : s.size ≤ maxLen) (hg : g s.data.toList = none) :
    Calls Tryz.prog 20 #[.pointer (some ⟨d.p, 0, none⟩), .string s] w fun e w' => e = .returned (.tuple #[.int .i64 0, .int .i64 6]) ∧ Fr No w w' := by
  have HX := Lib.hid (find_none s w h hs hg)
  clear h hg
  go_enter Tryz.func20, Tryz.ntmps20
  go_wp2_with fail
  refine HX.out.mono ?_
  rintro e w1 ⟨rfl, hf⟩
  have HF := Lib.hid hf
  clear hf HX
  go_wp2
  go_ret2
  exact ⟨rfl, HF.out.alloc _⟩
theorem at_some (s : ByteArray) (w : World) (h : DkS w d f N b E k g) (hs : s.size ≤ maxLen) {a : ByteArray} {t : Nat} (hg : g s.data.toList = some (a, t)) :
    Calls Tryz.prog 20 #[.pointer (some ⟨d.p, 0, none⟩), .string s] w fun e w' => e = .returned (.tuple #[.int .i64 (t : Int), .int .i64 0]) ∧ Fr No w w' := by
  have HX := Lib.hid (find_some s w h hs hg)
  clear h hg
  go_enter Tryz.func20, Tryz.ntmps20
  go_wp2_with fail
  refine HX.out.mono ?_
  rintro e w1 ⟨rfl, hf⟩
  have HF := Lib.hid hf
  clear hf HX
  go_wp2
  go_ret2
  exact ⟨rfl, HF.out.alloc _⟩
theorem poll_none (s : ByteArray) (m : Int) (w : World) (h : DkS w d f N b E k g) (hs : s.size ≤ maxLen) (hg : g s.data.toList = none) :
    Calls Tryz.prog 17 #[.pointer (some ⟨d.p, 0, none⟩), .string s, .int .i64 m] w fun e w' => e = .returned (.tuple #[.slice none 0 0, .int .i64 6]) ∧ Fr No w w' := by
  have HX := Lib.hid (find_none s w h hs hg)
  clear h hg
  go_enter Tryz.func17, Tryz.ntmps17
  go_wp2_with fail
  refine HX.out.mono ?_
  rintro e w1 ⟨rfl, hf⟩
  have HF := Lib.hid hf
  clear hf HX
  go_wp2
  go_ret2
  exact ⟨rfl, HF.out.alloc _⟩
theorem poll_some (s : ByteArray) (m : Int) (w : World) (h : DkS w d f N b E k g) (hs : s.size ≤ maxLen) (hm : In64 m) {a : ByteArray} {t : Nat} (hg : g s.data.toList = some (a, t)) (hl : (E a.data.toList).length ≤ 1000000) :
    Calls Tryz.prog 17 #[.pointer (some ⟨d.p, 0, none⟩), .string s, .int .i64 m] w fun e w' => ∃ v, e = .returned (.tuple #[v, .int .i64 0]) ∧ Own w' 65 5 v (((E a.data.toList).drop t).take m.toNat).length (evs (((E a.data.toList).drop t).take m.toNat)) ∧ Fr No w w' ∧ ∀ i, v.ownBlock = some i → w.heap.size ≤ i := by
  have HX := Lib.hid (find_some s w h hs hg)
  obtain ⟨hsa, hta⟩ := h.tk _ _ hg
  simp only at hsa hta
  obtain ⟨c, hc, hv⟩ := h.ev
  have HV := Lib.hid hv
  have HB := Lib.hid h.blk
  have HL := Lib.hid hl
  clear h hg hv hl
  generalize hM : (E a.data.toList).drop t = M
  generalize hT : M.take m.toNat = T
  go_enter Tryz.func17, Tryz.ntmps17
  go_wp2_with fail
  refine HX.out.mono ?_
  rintro e w1 ⟨rfl, hf⟩
  have hsl := (HV.out.noF hf).sl a.data.toList
  obtain ⟨A, c1, hA, hc1, hc2⟩ := hsl.form
  have hlk := fun W (hW : Fr No w W) => by
    have h1 := (HV.out.noF hW).look a hsa
    rw [hA] at h1
    exact h1
  rw [hA] at hsl
  have hk1 := fun n => hlk _ ((hf.alloc (.cells #[.string a, .int .i64 (t : Int)] 80)).drewN n)
  have hb1 := (HB.out.fr hf (fun h => h)).alloc (.cells #[.string a, .int .i64 (t : Int)] 80)
  have b1 := hb1.cell 1
  have hz := Blk.new w1 80 #[.string a, .int .i64 (t : Int)]
  have z0 := hz.cell 0
  have z1 := hz.cell 1
  have HF := Lib.hid hf
  simp only [List.getElem?_toArray, List.getElem?_cons_zero, List.getElem?_cons_succ] at b1 z0 z1
  generalize (E a.data.toList) = L at *
  clear hb1 hz hf hlk
  go_upto_region 4 with (fail)
  have HF2 : Hid (Fr No w1 (w1.alloc (.cells #[.string a, .int .i64 (t : Int)] 80))) := (Fr.refl _ _).alloc _
  have HF3 : Hid (Fr No w (w1.alloc (.cells #[.string a, .int .i64 (t : Int)] 80))) := HF.out.alloc _
  generalize w1.alloc (.cells #[.string a, .int .i64 (t : Int)] 80) = w2 at *
  go_quiet (fail)
  have hcut := ((hsl.rd.fr (by decide : 0 < 5) ((HF2.out).drewN nq) (fun _ _ _ h => h)).cut (k := t) (cap := c1) hta hc1)
  rw [evs_drop] at hcut
  rw [hM] at hcut
  have hMl : M.length ≤ 1000000 := by rw [← hM, List.length_drop]; have := HL.out; omega
  have e1 : L.length - t = M.length := by rw [← hM, List.length_drop]
  rw [e1] at hcut ⊢
  generalize (if c1 = t then A else Option.map (fun x => x.add (t * 5)) A) = A2 at *
  have hc3 : M.length ≤ c1 - t := by rw [← hM, List.length_drop]; omega
  have hc4 : c1 - t ≤ maxLen := by omega
  generalize c1 - t = c2 at *
  have hTl : T.length ≤ M.length := by rw [← hT, List.length_take]; omega
  have hTT : M.take T.length = T := by rw [← hT, List.length_take, List.take_eq_take_iff]; simp
  have HCUT := hcut.take (k := T.length) hTl
  rw [evs_take, hTT] at HCUT
  have HCL := Lib.hid (fun W (hW : Fr No (w2.drewN nq) W) => cloneE_any _ A2 c2 T W (HCUT.fr (by decide : 0 < 5) hW (fun _ _ _ h => h)) (by omega))
  have HFF : Hid (Fr No w (w2.drewN nq)) := HF3.out.drewN nq
  have hTm : (max 0 (min m (M.length : Int))).toNat = T.length := by
    rw [← hT, List.length_take]
    omega
  clear hcut e1 hta hsl hk1 b1 z0 z1 hc1 hc2 HF2 HF3 HCUT hTT hT hM
  generalize w2.drewN nq = w3 at *
  have hc5 : c2 ≤ 9223372036854775807 := by unfold maxLen at hc4; omega
  unfold In64 at hm
  have HTM := Lib.hid hTm
  clear hTm
  go_wp2_with fail
  rw [HTM.out]
  refine (HCL.out _ (Fr.refl _ _)).mono ?_
  rintro e w4 ⟨v, rfl, ho, hf4, hn⟩
  have HO := Lib.hid ho
  have HF4 : Hid (Fr No w w4) := HFF.out.trans (fr_at_none hf4)
  have HN : Hid (∀ i, v.ownBlock = some i → w.heap.size ≤ i) := fun i hi => by
    have h1 := newer_none hn i hi
    have h2 := HFF.out.size
    omega
  clear ho hf4 hn HCL HTM
  go_wp2
  go_ret2
  exact ⟨v, rfl, HO.out, HF4.out, HN.out⟩
end
end Go.Proofs.YtlanhclgbkhdlaaGreat
