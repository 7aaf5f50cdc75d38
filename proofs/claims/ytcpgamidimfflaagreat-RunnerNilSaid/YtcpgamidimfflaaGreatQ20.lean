/- copies.All; which orders a list lacks: clash.without; clash.kept. A book in memory. Its small functions: New, isClosed, about. -/
import Derived.Test.YtcpgamidimfflaaGreatQ18
import Derived.Test.YtcpgamidimfflaaGreatQ17
import Derived.Test.YtcpgamidimfflaaGreatQ16
import Derived.Test.YtcpgamidimfflaaGreatQ14
import Derived.Deep.RegionHeld3
import Derived.Deep.DrawnRows
namespace Go.Proofs.YtcpgamidimfflaaGreat
open Go.RowKit Go.My Go.Maps Go.WideMaps
set_option linter.unusedSimpArgs false
set_option linter.unusedVariables false
attribute [local go_sem ↓] Go.wp_at_zero Go.wp_at_succ
def OdRF (w : World) (F : Nat → Prop) (cs : List Value) (o : Od) : Prop := ∃ v, cs = o.cs v ∧ o.ok ∧ (∀ g ∈ o.legs, g.ok) ∧ LgS w F v o.legs
def OwnN (B : Nat) (w : World) (v : Value) (l : List Od) : Prop := ∃ cells, Own w 35 10 v l.length cells ∧ Each (OdRF w (New B w v.ownBlock)) 10 cells l
theorem each_imp {α : Type} {R R' : List Value → α → Prop} {n : Nat} {cells : List Value} {L : List α} (h : Each R n cells L) (hi : ∀ cs x, R cs x → R' cs x) : Each R' n cells L := ⟨h.1, fun i x hx => hi _ _ (h.2 i x hx)⟩
theorem each_snoc {R : List Value → Od → Prop} {n : Nat} {cells cs : List Value} {l : List Od} (h : Each R n cells l) {o : Od} (hn : 0 < n) (hl : cs.length = n) (ho : R cs o) : Each R n (cells ++ cs) (l ++ [o]) := by
  refine ⟨by rw [List.length_append, hl, h.1, List.length_append, List.length_singleton, Nat.add_mul]; omega, fun i x hx => ?_⟩
  by_cases hi : i < l.length
  · rw [List.getElem?_append_left hi] at hx
    have h1 := h.2 i x hx
    have h2 : i * n + n ≤ cells.length := by rw [h.1]; have := Nat.mul_le_mul_right n (show i + 1 ≤ l.length from hi); rw [Nat.add_mul] at this; omega
    rw [List.drop_append_of_le_length (by omega), List.take_append_of_le_length (by rw [List.length_drop]; omega)]
    exact h1
  · rw [List.getElem?_append_right (by omega)] at hx
    have hi0 : i - l.length = 0 := by
      rcases Nat.eq_zero_or_pos (i - l.length) with h0 | h0
      · exact h0
      · rw [List.getElem?_eq_none (by rw [List.length_singleton]; omega)] at hx; cases hx
    rw [hi0] at hx
    simp only [List.getElem?_cons_zero, Option.some.injEq] at hx
    subst hx
    have : i = l.length := by omega
    subst this
    rw [← h.1, List.drop_left, List.take_of_length_le (by omega)]
    exact ho
theorem OdRF.r {w : World} {F : Nat → Prop} (hF : ∀ k, F k → k < w.heap.size) {cs : List Value} {o : Od} (h : OdRF w F cs o) : OdR w cs o := by
  obtain ⟨v, h1, h2, h3, h4⟩ := h
  exact ⟨v, h1, h2, h3, h4.more hF⟩
theorem OwnN.nil (B : Nat) (w : World) : OwnN B w (.slice none 0 0) [] := ⟨[], Own.nil _ _ _, ⟨rfl, fun i x hx => by simp at hx⟩⟩
theorem OwnN.form {B : Nat} {w : World} {v : Value} {l : List Od} (h : OwnN B w v l) : ∃ A c, v = .slice A l.length c ∧ l.length ≤ c ∧ c ≤ maxLen := by
  obtain ⟨cells, ho, _⟩ := h
  exact ho.form
theorem OwnN.lt {B : Nat} {w : World} {v : Value} {l : List Od} (h : OwnN B w v l) : ∀ k, v.ownBlock = some k → k < w.heap.size := by
  obtain ⟨cells, ho, _⟩ := h
  exact ho.lt
theorem OwnN.no {B : Nat} {w w' : World} {v : Value} {l : List Od} (h : OwnN B w v l) (hf : Fr No w w') : OwnN B w' v l := by
  obtain ⟨cells, ho, hE⟩ := h
  refine ⟨cells, ho.fr hf (fun _ _ h => h), each_imp hE fun cs o ⟨v, h1, h2, h3, h4⟩ => ⟨v, h1, h2, h3, (h4.no hf).more fun k hk => ⟨hk.1, Nat.lt_of_lt_of_le hk.2.1 hf.size, hk.2.2⟩⟩⟩
theorem OwnN.ods {B : Nat} {w : World} {A : Option Addr} {m c : Nat} {l : List Od} (h : OwnN B w (.slice A m c) l) : OdsS w w (fun k => (Value.slice A m c).ownBlock = some k) A l := by
  obtain ⟨cells, ho, hE⟩ := h
  exact ⟨cells, ho.rd, each_imp hE fun cs o h => h.r fun k hk => hk.2.1⟩
theorem eachN_put {B : Nat} {w wa w1 w2 w3 : World} {g g1 : Option Nat} {cells : List Value} {l : List Od} {o : Od} {v : Value} (hB : B ≤ wa.heap.size) (hE : Each (OdRF w (New B w g)) 10 cells l) (hg : ∀ k, g = some k → k < w.heap.size)
    (h1 : Fr No w wa) (h2 : Fr No wa w1) (hL : LgS w1 (New wa.heap.size w1 none) v o.legs) (h3 : Fr No w1 w2) (h4 : Fr (AtO g) w2 w3) (hn : g1 = g ∨ g1 = some w2.heap.size) (hok : o.ok) (hgs : ∀ g ∈ o.legs, g.ok) :
    Each (OdRF w3 (New B w3 g1)) 10 (cells ++ o.cs v) (l ++ [o]) := by
  have s1 := h1.size
  have s2 := h2.size
  have s3 := h3.size
  have s4 := h4.size
  have e1 : ∀ k, New B w g k → New B w3 g1 k := fun k hk => by
    obtain ⟨k1, k2, k3⟩ := hk
    refine ⟨k1, by omega, fun e => ?_⟩
    rcases hn with rfl | rfl
    · exact k3 e
    · simp only [Option.some.injEq] at e
      omega
  have e2 : ∀ k, New wa.heap.size w1 none k → New B w3 g1 k := fun k hk => by
    obtain ⟨k1, k2, k3⟩ := hk
    refine ⟨by omega, by omega, fun e => ?_⟩
    rcases hn with rfl | rfl
    · have := hg k e
      omega
    · simp only [Option.some.injEq] at e
      omega
  have hE1 : Each (OdRF w3 (New B w3 g1)) 10 cells l := each_imp hE fun cs o ⟨v, k1, k2, k3, k4⟩ => ⟨v, k1, k2, k3, ((k4.no ((h1.trans h2).trans h3)).frS h4 fun k hk _ e => hk.2.2 e).more e1⟩
  refine each_snoc hE1 (by omega) rfl ⟨v, rfl, hok, hgs, ((hL.no h3).frS h4 fun k hk _ e => ?_).more e2⟩
  have := hg k e
  have := hk.1
  omega
def RetN (w : World) (l : List Od) (e : Ending) (w' : World) : Prop := ∃ A c, e = .returned (.slice A l.length c) ∧ OwnN w.heap.size w' (.slice A l.length c) l ∧ Fr No w w' ∧ ∀ k, (Value.slice A l.length c).ownBlock = some k → w.heap.size ≤ k
def CpRel (w : World) (l : List Od) (lv iv : Value) (wr : World) : Prop := ∃ k : Nat, k ≤ l.length ∧ iv = .int .i64 k ∧ OwnN w.heap.size wr lv (l.take k) ∧ Fr No w wr ∧ Newer w.heap.size none lv.ownBlock
set_option maxRecDepth 100000 in
set_option maxHeartbeats 1000000 in
theorem copyAll_any (w : World) (F : Nat → Prop) (A : Option Addr) (c : Nat) (l : List Od) (hl : OdsS w w F A l) (hn : l.length ≤ 1000000) (hs : ∀ o ∈ l, o.legs.length ≤ 100000) :
    Calls Tryz.prog 60 #[.slice A l.length c, .func (.func 61) #[] #[]] w (RetN w l) := by
  have HL := Lib.hid hl
  have HS := Lib.hid hs
  have hen : ∀ args W, (callFunc 61 args).run Tryz.prog W = .ok (.enter 61 args) W := enters_of Tryz.func61 (by kernel_rfl) rfl
  clear hl hs
  go_enter Tryz.func60, Tryz.ntmps60
  go_wp2
  go_loopw [5, 10] (fun lv iv wr => CpRel w l lv iv wr) (fun _ iv _ => l.length - (intOf iv).toNat)
  case atStart => exact ⟨0, Nat.zero_le _, rfl, OwnN.nil _ _, Fr.refl _ _, .inl rfl⟩
  case round =>
    obtain ⟨k, hk, rfl, hown, hfr, hnew⟩ := hrel
    have hk62 : (k : Int) ≤ 1000000 := by omega
    by_cases hlt : k < l.length
    · obtain ⟨ad, v, rfl, _, hok, hg, hL, q0, q1, q2, q3, q4, q5, q6, q7, q8, q9⟩ := (HL.out.fr hfr (fun _ _ _ h => h)).at_ k hlt
      obtain ⟨B, d, rfl, hd1, hd2⟩ := hL.form
      have HTK : Hid (l.take (k + 1) = l.take k ++ [l[k]]) := List.take_succ_eq_append_getElem hlt
      have hlk : (l.take k).length = k := by rw [List.length_take]; omega
      have HLK := Lib.hid hlk
      have HC : Hid (∀ W, Fr No w W → Calls Tryz.prog 61 #[l[k].val (.slice B l[k].legs.length d)] W (OrdRet W l[k])) := fun W hW => copyO_any _ l[k] _ W (hL.no hW) (HS.out _ (List.getElem_mem hlt))
      have HOK : Hid (l[k].ok ∧ ∀ g ∈ l[k].legs, g.ok) := ⟨hok, hg⟩
      have HFR := Lib.hid hfr
      have HNW := Lib.hid hnew
      have HOWN := Lib.hid hown
      have HLT : Hid (k + 1 ≤ l.length) := hlt
      unfold OrdRet Od.val Od.cs at HC
      have HCS : Hid (∀ v, l[k].cs v = [.int .i64 l[k].cl, .int .i64 l[k].sq, .int .i64 l[k].kd, .string l[k].acct, .string l[k].peer, .int .i64 l[k].sum, v, .int .i64 l[k].per, .int .i64 l[k].hold, .string l[k].note]) := fun _ => rfl
      have HEP : Hid (∀ (wa w1 w2 w3 : World) (g g1 : Option Nat) (cells : List Value) (v : Value), Each (OdRF wr (New w.heap.size wr g)) 10 cells (l.take k) → (∀ k, g = some k → k < wr.heap.size) → w.heap.size ≤ wa.heap.size → Fr No wr wa → Fr No wa w1 → LgS w1 (New wa.heap.size w1 none) v l[k].legs → Fr No w1 w2 → Fr (AtO g) w2 w3 → (g1 = g ∨ g1 = some w2.heap.size) → Each (OdRF w3 (New w.heap.size w3 g1)) 10 (cells ++ l[k].cs v) (l.take k ++ [l[k]]))   := fun wa w1 w2 w3 g g1 cells v h0 hlt hB h1 h2 h3 h4 h5 h6 => eachN_put hB h0 hlt h1 h2 h3 h4 h5 h6 hok hg
      obtain ⟨cells, ho, hE⟩ := hown
      have HO := Lib.hid ho
      have HE := Lib.hid hE
      simp only [List.toArray] at HC
      generalize l[k].legs = L at *
      generalize l[k].cl = cl at *
      generalize l[k].sq = sq at *
      generalize l[k].kd = kd at *
      generalize l[k].acct = acct at *
      generalize l[k].peer = peer at *
      generalize l[k].sum = sum at *
      generalize l[k].per = per at *
      generalize l[k].hold = hold at *
      generalize l[k].note = note at *
      generalize l[k] = ok_ at *
      clear hok hg hL hE hlk ho hfr hnew
      go_wp2_with fail
      (with_reducible refine (HC.out _ (HFR.out.alloc _)).mono ?_)
      rintro e w1 ⟨A1, c1, rfl, hL1, hf1⟩
      have HL1 := Lib.hid hL1
      have HF1 := Lib.hid hf1
      have HSZ : Hid (w.heap.size ≤ wr.heap.size) := HFR.out.size
      clear hL1 hf1
      go_wp2_with (at_builtin; refine wpList_app _ rfl (.tmp 14) (.tmp 18) 55 55 rfl elO ((((HO.out.alloc _).fr HF1.out (fun _ _ h => h))).alloc _) rfl (Src.of_new (cs := #[.int .i64 cl, .int .i64 sq, .int .i64 kd, .string acct, .string peer, .int .i64 sum, .slice A1 L.length c1, .int .i64 per, .int .i64 hold, .string note]) (t := 35) w1.heap.size (heap_alloc_new w1 _) Tryz.underlying55 rfl (by simp [Value.oneCell'])) rfl (by rw [HLK.out]; simp only [maxLen]; omega) (by rw [HLK.out]; omega) ?_; intro v1 w3 hown3 hfr3 hnew3)
      go_roundw
      case rel =>
        refine ⟨k + 1, HLT.out, by go_num, ?_, ?_, ?_⟩
        · rw [HTK.out]
          refine ⟨_, by rw [List.length_append]; exact hown3, ?_⟩
          have h := HEP.out _ _ _ _ _ _ _ _ HE.out HO.out.lt (by rw [World.size_alloc]; have := HSZ.out; omega) ((Fr.refl _ _).alloc _) HF1.out HL1.out ((Fr.refl _ _).alloc _) hfr3 hnew3
          rw [HCS.out] at h
          exact h
        · refine (((HFR.out.alloc _).trans HF1.out).alloc _).trans' hfr3 fun i hi hlt => ?_
          have hi : _ = some i := hi
          have := newer_none HNW.out i hi
          omega
        · refine HNW.out.trans (Newer.of hnew3) ?_
          rw [World.size_alloc]
          have h1 := HF1.out.size
          rw [World.size_alloc] at h1
          have := HSZ.out
          omega
      case measure => have := HLT.out; simp [intOf]; omega
    · obtain rfl : k = l.length := by omega
      rw [List.take_length] at hown
      obtain ⟨A1, c1, rfl, h1, h2⟩ := hown.form
      go_wp2
      go_ret
      exact ⟨A1, c1, rfl, hown, hfr, fun j hj => newer_none hnew j hj⟩
structure WoS (w : World) (g m : Nat) (L : List Idk) : Prop where
  cell : w.cell? ⟨g, 0, none⟩ = some (.map (some m))
  mp : IMp w m L
theorem WoS.no {w w' : World} {g m : Nat} {L : List Idk} (h : WoS w g m L) (hf : Fr No w w') : WoS w' g m L := ⟨hf.cell_some h.cell (fun h => h), h.mp.fr hf (fun h => h)⟩
end Go.Proofs.YtcpgamidimfflaaGreat
namespace Go.Proofs.YtcpgamidimfflaaGreat
open Go.RowKit Go.My Go.Maps
set_option linter.unusedSimpArgs false
set_option linter.unusedVariables false
attribute [local go_sem ↓] Go.wp_at_zero Go.wp_at_succ
structure Pl where
  p : Nat
  c : Nat
  m : Nat
  h : Nat
  k : Nat
def Pl.all (q : Pl) : Nat → Prop := fun i => i = q.p ∨ i = q.c ∨ i = q.m ∨ i = q.h ∨ i = q.k
def Pl.wr (q : Pl) : Nat → Prop := fun i => i = q.p ∨ i = q.m ∨ i = q.k
theorem Pl.wr_all {q : Pl} {i : Nat} (h : q.wr i) : q.all i := by
  rcases h with h | h | h
  · exact .inl h
  · exact .inr (.inr (.inl h))
  · exact .inr (.inr (.inr (.inr h)))
structure BkS (w : World) (q : Pl) (b : Bk) : Prop where
  blk : Blk w q.p 134 #[.pointer (some ⟨q.c, 0, none⟩), .pointer (some ⟨q.h, 0, none⟩), .int .i64 b.cl]
  ch : ChS w q.c q.m b.S
  hd : HdS w q.h q.k b.H
  ne : q.k ≠ q.m
  inv : BkI b
section
variable {w w' : World} {q : Pl} {b : Bk}
theorem BkS.fr {F : Nat → Prop} (h : BkS w q b) (hf : Fr F w w') (hn : ∀ i, q.all i → ¬ F i) : BkS w' q b :=
  ⟨h.blk.fr hf (hn _ (.inl rfl)), h.ch.fr hf (hn _ (.inr (.inl rfl))) (hn _ (.inr (.inr (.inl rfl)))), h.hd.fr hf (hn _ (.inr (.inr (.inr (.inl rfl))))) (hn _ (.inr (.inr (.inr (.inr rfl))))), h.ne, h.inv⟩
theorem BkS.no (h : BkS w q b) (hf : Fr No w w') : BkS w' q b := h.fr hf (fun _ _ h => h)
theorem BkS.lt (h : BkS w q b) : ∀ i, q.all i → i < w.heap.size := fun i hi => by
  rcases hi with rfl | rfl | rfl | rfl | rfl
  · exact h.blk.lt
  · exact h.ch.1.lt
  · exact h.ch.2.lt
  · exact h.hd.1.lt
  · exact h.hd.2.lt
theorem BkS.mp (h : BkS w q b) : q.m ≠ q.p ∧ q.k ≠ q.p := ⟨h.ch.2.ne_ h.blk, h.hd.2.ne_ h.blk⟩
theorem BkS.chart (h : BkS w q b) {S : List Ac} (hc : ChS w' q.c q.m S) (hf : Fr (At1 q.m) w w') (hi : BkI ⟨S, b.H, b.cl⟩) : BkS w' q ⟨S, b.H, b.cl⟩ :=
  ⟨h.blk.fr hf (fun e => h.mp.1 (show q.p = q.m from e).symm), hc, h.hd.at1 h.ch h.ne hf, h.ne, hi⟩
theorem BkS.chart_same (h : BkS w q b) (hc : ChS w' q.c q.m b.S) (hf : Fr (At1 q.m) w w') : BkS w' q b := h.chart hc hf h.inv
theorem BkS.both (h : BkS w q b) {n : Int} {S : List Ac} {H : List Hd} {e : Ending} (hr : HRet q.c q.m q.h q.k n S H w e w') (hi : BkI ⟨S, H, b.cl⟩) : BkS w' q ⟨S, H, b.cl⟩ :=
  ⟨h.blk.fr hr.fr (fun e => by rcases e with e | e; exact h.mp.1 e.symm; exact h.mp.2 e.symm), hr.ch, hr.hd, h.ne, hi⟩
theorem Pl.wr_mk {q : Pl} (hf : Fr (At2 q.m q.k) w w') : Fr q.wr w w' := hf.mono fun _ _ h => by
  rcases h with h | h
  · exact .inr (.inl h)
  · exact .inr (.inr h)
end
theorem fr_set4 (w : World) (g : Nat) (a b c d : Value) : Fr (At1 g) w ((((w.setCell ⟨g, 0, none⟩ a).setCell ⟨g, 1, none⟩ b).setCell ⟨g, 2, none⟩ c).setCell ⟨g, 3, none⟩ d) :=
  Fr.setCell (S := At1 g) (p := ⟨g, 3, none⟩) (Fr.setCell (S := At1 g) (p := ⟨g, 2, none⟩) (Fr.setCell (S := At1 g) (p := ⟨g, 1, none⟩) (Fr.setCell (S := At1 g) (p := ⟨g, 0, none⟩) (Fr.refl _ _) (fun _ => rfl) _) (fun _ => rfl) _) (fun _ => rfl) _) (fun _ => rfl) _
set_option maxRecDepth 100000 in
set_option maxHeartbeats 1000000 in
theorem isClosed_any (q : Pl) (b : Bk) (n : Int) (w : World) (h : BkS w q b) : Calls Tryz.prog 199 #[.pointer (some ⟨q.p, 0, none⟩), .int .i64 n] w fun e w' => e = .returned (.bool (decide (n ≤ b.cl))) ∧ w = w' := by
  have x2 : w.cell? ⟨q.p, 2, none⟩ = some (.int .i64 b.cl) := h.blk.cell 2
  clear h
  go_enter Tryz.func199, Tryz.ntmps199
  go_wp2
  go_ret
  exact ⟨rfl, rfl⟩
set_option maxRecDepth 100000 in
set_option maxHeartbeats 1000000 in
theorem about_any (q : Pl) (b : Bk) (s : ByteArray) (e0 : Int) (w : World) (h : BkS w q b) (hs : s.size ≤ maxLen) :
    Calls Tryz.prog 197 #[.pointer (some ⟨q.p, 0, none⟩), .string s, .int .i64 e0] w fun e w' => e = .returned (aboutR b.S s.data.toList e0).val ∧ BkS w' q b ∧ Fr (At1 q.m) w w' := by
  have HH := Lib.hid h
  by_cases h0 : e0 = 0
  · subst h0
    have HG : Hid (∀ W, Fr No w W → Calls Tryz.prog 225 #[.pointer (some ⟨q.c, 0, none⟩), .string s] W (GotC q.c q.m b.S s.data.toList W)) := fun W hW => get_any q.c q.m b.S s W (h.ch.no hW) hs h.inv.st.kp.inv.len
    have x0 : ∀ o, (w.alloc o).cell? ⟨q.p, 0, none⟩ = some (.pointer (some ⟨q.c, 0, none⟩)) := fun o => (h.blk.alloc o).cell 0
    have hml := h.ch.2.lt
    clear h hs
    go_enter Tryz.func197, Tryz.ntmps197
    go_wp2_with fail
    refine (HG.out _ ((Fr.refl _ _).alloc _)).mono ?_
    rintro e w2 ⟨rfl, hc2, hf2⟩
    have hb := (Blk.new w 50 #[.int .i64 0, .int .i64 0, .int .i64 0, .int .i64 0]).fr hf2 (fun e => by have : w.heap.size = q.m := e; omega)
    have HF2 : Hid (Fr (At1 q.m) w w2) := (((Fr.refl No w).alloc _).mono (T := At1 q.m) fun _ _ h => False.elim h).trans hf2
    have HB2 := Lib.hid (HH.out.chart_same hc2 HF2.out)
    have c0 := hb.cell 0
    have c1 := hb.cell 1
    have c2 := hb.cell 2
    have c3 := hb.cell 3
    have f0 := hb.frozen 0
    have f1 := hb.frozen 1
    have f2 := hb.frozen 2
    have f3 := hb.frozen 3
    simp only [List.getElem?_toArray, List.getElem?_cons_zero, List.getElem?_cons_succ] at c0 c1 c2 c3
    have HR : Hid (aboutR b.S s.data.toList 0 = ⟨(if (getA b.S s.data.toList).isSome then 0 else 6), (getV b.S s.data.toList).hv, (getV b.S s.data.toList).st, 0⟩) := rfl
    have hrl := hb.lt
    generalize getV b.S s.data.toList = V at *
    generalize (if (getA b.S s.data.toList).isSome then (0 : Int) else 6) = n at *
    obtain ⟨vn, vh, vs, vl⟩ := V
    unfold Ac.val
    simp only at HR
    have hy := Blk.new w2 124 #[.string ⟨vn.toArray⟩, .int .i64 vh, .int .i64 vs, .int .i64 vl]
    have y1 := hy.cell 1
    have y2 := hy.cell 2
    simp only [List.getElem?_toArray, List.getElem?_cons_zero, List.getElem?_cons_succ] at y1 y2
    have HB4 := Lib.hid hb
    clear hy hb hf2 hc2 x0 HG
    go_wp2
    have hd : Blk (((((w2.setCell ⟨w.heap.size, 0, none⟩ (.int .i64 n)).setCell ⟨w.heap.size, 1, none⟩ (.int .i64 vh)).setCell ⟨w.heap.size, 2, none⟩ (.int .i64 vs)).setCell ⟨w.heap.size, 3, none⟩ (.int .i64 0)).alloc (.cells #[.string ⟨vn.toArray⟩, .int .i64 vh, .int .i64 vs, .int .i64 vl] 124)) w.heap.size 50 #[.int .i64 n, .int .i64 vh, .int .i64 vs, .int .i64 0] :=
      ((((HB4.out.set_ 0 (.int .i64 n)).set_ 1 (.int .i64 vh)).set_ 2 (.int .i64 vs)).set_ 3 (.int .i64 0)).alloc _
    have HX := (fr_set4 w2 w.heap.size (.int .i64 n) (.int .i64 vh) (.int .i64 vs) (.int .i64 0)).alloc (.cells #[.string ⟨vn.toArray⟩, .int .i64 vh, .int .i64 vs, .int .i64 vl] 124)
    generalize ((((w2.setCell ⟨w.heap.size, 0, none⟩ (.int .i64 n)).setCell ⟨w.heap.size, 1, none⟩ (.int .i64 vh)).setCell ⟨w.heap.size, 2, none⟩ (.int .i64 vs)).setCell ⟨w.heap.size, 3, none⟩ (.int .i64 0)).alloc (.cells #[.string ⟨vn.toArray⟩, .int .i64 vh, .int .i64 vs, .int .i64 vl] 124) = w3 at *
    have d0 := hd.cell 0
    have d1 := hd.cell 1
    have d2 := hd.cell 2
    have d3 := hd.cell 3
    simp only [List.getElem?_toArray, List.getElem?_cons_zero, List.getElem?_cons_succ] at d0 d1 d2 d3
    refine bodyPost_ret (v := .agg #[.int .i64 n, .int .i64 vh, .int .i64 vs, .int .i64 0]) (by simp [results, Tryz.results197, go_sem, d0, d1, d2, d3]) rfl ?_
    refine ⟨by rw [HR.out]; rfl, HB2.out.fr HX (fun i hi e => ?_), HF2.out.trans' HX fun i hi hlt => ?_⟩
    · have := HH.out.lt i hi
      have : i = w.heap.size := e
      omega
    · have : i = w.heap.size := hi
      omega
  · have HR : Hid (aboutR b.S s.data.toList e0 = ⟨e0, 0, 0, 0⟩) := by show _ = _; unfold aboutR; rw [if_neg h0]; rfl
    have hne : (e0 != 0) = true := by rw [bne_iff_ne]; exact h0
    have hb := Blk.new w 50 #[.int .i64 0, .int .i64 0, .int .i64 0, .int .i64 0]
    have c0 := hb.cell 0
    have c1 := hb.cell 1
    have c2 := hb.cell 2
    have c3 := hb.cell 3
    have f0 := hb.frozen 0
    have f1 := hb.frozen 1
    have f2 := hb.frozen 2
    have f3 := hb.frozen 3
    simp only [List.getElem?_toArray, List.getElem?_cons_zero, List.getElem?_cons_succ] at c0 c1 c2 c3
    clear h h0 hb hs
    go_enter Tryz.func197, Tryz.ntmps197
    go_wp2
    refine bodyPost_ret (v := .agg #[.int .i64 e0, .int .i64 0, .int .i64 0, .int .i64 0]) (by simp [results, Tryz.results197, go_sem, c0, c1, c2, c3, f0, f1, f2, f3]) rfl ?_
    exact ⟨by rw [HR.out]; rfl, HH.out.no ((Fr.refl _ _).alloc _), (Fr.refl _ _).alloc _⟩
set_option maxRecDepth 100000 in
set_option maxHeartbeats 1000000 in
theorem newB_any (w : World) : Calls Tryz.prog 40 #[] w fun e w' => ∃ q : Pl, e = .returned (.pointer (some ⟨q.p, 0, none⟩)) ∧ BkS w' q bk0 ∧ Fr No w w' ∧ ∀ i, q.all i → w.heap.size ≤ i := by
  go_enter Tryz.func40, Tryz.ntmps40
  go_wp2_with fail
  refine (new_any _).mono ?_
  rintro e w1 ⟨c, m, rfl, hc1, hf1, hcl, hml⟩
  go_wp2_with fail
  refine (newH_any _).mono ?_
  rintro e w2 ⟨h, k, rfl, hh2, hf2, hhl, hkl⟩
  have hm := hc1.2.lt
  have hc2 := hc1.no hf2
  have hs1 := hf1.size
  have hs2 := hf2.size
  have HB := Lib.hid (Blk.new w2 134 #[.pointer (some ⟨c, 0, none⟩), .pointer (some ⟨h, 0, none⟩), .int .i64 0])
  have HC2 := Lib.hid hc2
  have HH2 := Lib.hid hh2
  have HF := Lib.hid (hf1.trans hf2)
  clear hc1 hf1 hc2 hh2 hf2
  go_wp2
  go_ret
  refine ⟨⟨w2.heap.size, c, m, h, k⟩, rfl, ⟨HB.out, HC2.out.no ((Fr.refl _ _).alloc _), HH2.out.no ((Fr.refl _ _).alloc _), ?_, bki0⟩, HF.out.alloc _, ?_⟩
  · simp only
    omega
  · intro i hi
    rcases hi with e | e | e | e | e <;> simp only at e <;> omega
end Go.Proofs.YtcpgamidimfflaaGreat
