/- copies.All; which orders a list lacks: clash.without; clash.kept. -/
import Derived.Test.YtlanhclgbkhdlaaGreatClash7
import Derived.Test.YtlanhclgbkhdlaaGreatQ12
namespace Go.Proofs.YtlanhclgbkhdlaaGreat
open Go.RowKit Go.My Go.Maps Go.WideMaps
set_option linter.unusedSimpArgs false
set_option linter.unusedVariables false
attribute [local go_sem ↓] Go.wp_at_zero Go.wp_at_succ

def OdRF (w : World) (F : Nat → Prop) (cs : List Value) (o : Od) : Prop := ∃ v, cs = o.cs v ∧ o.ok ∧ (∀ g ∈ o.legs, g.ok) ∧ LgS w F v o.legs
/-- a row of the call's own that holds orders whose legs are new since B, and lie apart from it -/
def OwnN (B : Nat) (w : World) (v : Value) (l : List Od) : Prop := ∃ cells, Own w 31 10 v l.length cells ∧ Each (OdRF w (New B w v.ownBlock)) 10 cells l
theorem each_imp {α : Type} {R R' : List Value → α → Prop} {n : Nat} {cells : List Value} {L : List α} (h : Each R n cells L) (hi : ∀ cs x, R cs x → R' cs x) : Each R' n cells L := ⟨h.1, fun i x hx => hi _ _ (h.2 i x hx)⟩
theorem each_snoc {R : List Value → Od → Prop} {n : Nat} {cells cs : List Value} {l : List Od} (h : Each R n cells l) {o : Od} (hn : 0 < n) (hl : cs.length = n) (ho : R cs o) : Each R n (cells ++ cs) (l ++ [o]) := by
  refine ⟨by rw [List.length_append, hl, h.1, List.length_append, List.length_singleton, Nat.add_mul]; omega, fun i x hx => ?_⟩
  by_cases hi : i < l.length
  · rw [List.getElem?_append_left hi] at hx
    have h1 := h.2 i x hx
    have h2 : i * n + n ≤ cells.length := by rw [h.1]; have := Nat.mul_le_mul_right n (show i + 1 ≤ l.length from hi); rw [Nat.add_mul] at this; omega
    rw [List.drop_append_of_le_length (by omega), List.take_append_of_le_length (by rw [List.length_drop]; omega)]
    exact h1
  · rw [List.getElem?_append_right (by omega)] at hx
    have hi0 : i - l.length = 0 := by
      rcases Nat.eq_zero_or_pos (i - l.length) with h0 | h0
      · exact h0
      · rw [List.getElem?_eq_none (by rw [List.length_singleton]; omega)] at hx; cases hx
    rw [hi0] at hx
    simp only [List.getElem?_cons_zero, Option.some.injEq] at hx
    subst hx
    have : i = l.length := by omega
    subst this
    rw [← h.1, List.drop_left, List.take_of_length_le (by omega)]
    exact ho
theorem OdRF.r {w : World} {F : Nat → Prop} (hF : ∀ k, F k → k < w.heap.size) {cs : List Value} {o : Od} (h : OdRF w F cs o) : OdR w cs o := by
  obtain ⟨v, h1, h2, h3, h4⟩ := h
  exact ⟨v, h1, h2, h3, h4.more hF⟩
theorem OwnN.nil (B : Nat) (w : World) : OwnN B w (.slice none 0 0) [] := ⟨[], Own.nil _ _ _, ⟨rfl, fun i x hx => by simp at hx⟩⟩
theorem OwnN.form {B : Nat} {w : World} {v : Value} {l : List Od} (h : OwnN B w v l) : ∃ A c, v = .slice A l.length c ∧ l.length ≤ c ∧ c ≤ maxLen := by
  obtain ⟨cells, ho, _⟩ := h
  exact ho.form
theorem OwnN.lt {B : Nat} {w : World} {v : Value} {l : List Od} (h : OwnN B w v l) : ∀ k, v.ownBlock = some k → k < w.heap.size := by
  obtain ⟨cells, ho, _⟩ := h
  exact ho.lt
theorem OwnN.no {B : Nat} {w w' : World} {v : Value} {l : List Od} (h : OwnN B w v l) (hf : Fr No w w') : OwnN B w' v l := by
  obtain ⟨cells, ho, hE⟩ := h
  refine ⟨cells, ho.fr hf (fun _ _ h => h), each_imp hE fun cs o ⟨v, h1, h2, h3, h4⟩ => ⟨v, h1, h2, h3, (h4.no hf).more fun k hk => ⟨hk.1, Nat.lt_of_lt_of_le hk.2.1 hf.size, hk.2.2⟩⟩⟩
theorem OwnN.ods {B : Nat} {w : World} {A : Option Addr} {m c : Nat} {l : List Od} (h : OwnN B w (.slice A m c) l) : OdsS w w (fun k => (Value.slice A m c).ownBlock = some k) A l := by
  obtain ⟨cells, ho, hE⟩ := h
  exact ⟨cells, ho.rd, each_imp hE fun cs o h => h.r fun k hk => hk.2.1⟩
/-- orders as they lie now -/
theorem OdsS.now {w w' : World} {F : Nat → Prop} {A : Option Addr} {l : List Od} (h : OdsS w w F A l) (hf : Fr No w w') : OdsS w' w' F A l := by
  obtain ⟨cells, hr, hE⟩ := h
  exact ⟨cells, hr.fr (by omega) hf (fun _ _ _ h => h), each_imp hE fun cs o ⟨v, h1, h2, h3, h4⟩ => ⟨v, h1, h2, h3, (h4.no hf).more fun k hk => Nat.lt_of_lt_of_le hk hf.size⟩⟩
theorem eachN_put {B : Nat} {w wa w1 w2 w3 : World} {g g1 : Option Nat} {cells : List Value} {l : List Od} {o : Od} {v : Value} (hB : B ≤ wa.heap.size) (hE : Each (OdRF w (New B w g)) 10 cells l) (hg : ∀ k, g = some k → k < w.heap.size)
    (h1 : Fr No w wa) (h2 : Fr No wa w1) (hL : LgS w1 (New wa.heap.size w1 none) v o.legs) (h3 : Fr No w1 w2) (h4 : Fr (AtO g) w2 w3) (hn : g1 = g ∨ g1 = some w2.heap.size) (hok : o.ok) (hgs : ∀ g ∈ o.legs, g.ok) :
    Each (OdRF w3 (New B w3 g1)) 10 (cells ++ o.cs v) (l ++ [o]) := by
  have s1 := h1.size
  have s2 := h2.size
  have s3 := h3.size
  have s4 := h4.size
  have e1 : ∀ k, New B w g k → New B w3 g1 k := fun k hk => by
    obtain ⟨k1, k2, k3⟩ := hk
    refine ⟨k1, by omega, fun e => ?_⟩
    rcases hn with rfl | rfl
    · exact k3 e
    · simp only [Option.some.injEq] at e
      omega
  have e2 : ∀ k, New wa.heap.size w1 none k → New B w3 g1 k := fun k hk => by
    obtain ⟨k1, k2, k3⟩ := hk
    refine ⟨by omega, by omega, fun e => ?_⟩
    rcases hn with rfl | rfl
    · have := hg k e
      omega
    · simp only [Option.some.injEq] at e
      omega
  have hE1 : Each (OdRF w3 (New B w3 g1)) 10 cells l := each_imp hE fun cs o ⟨v, k1, k2, k3, k4⟩ => ⟨v, k1, k2, k3, ((k4.no ((h1.trans h2).trans h3)).frS h4 fun k hk _ e => hk.2.2 e).more e1⟩
  refine each_snoc hE1 (by omega) rfl ⟨v, rfl, hok, hgs, ((hL.no h3).frS h4 fun k hk _ e => ?_).more e2⟩
  have := hg k e
  have := hk.1
  omega
/-- handed back: orders of the call's own -/
def RetN (w : World) (l : List Od) (e : Ending) (w' : World) : Prop := ∃ A c, e = .returned (.slice A l.length c) ∧ OwnN w.heap.size w' (.slice A l.length c) l ∧ Fr No w w' ∧ ∀ k, (Value.slice A l.length c).ownBlock = some k → w.heap.size ≤ k
def CpRel (w : World) (l : List Od) (lv iv : Value) (wr : World) : Prop := ∃ k : Nat, k ≤ l.length ∧ iv = .int .i64 k ∧ OwnN w.heap.size wr lv (l.take k) ∧ Fr No w wr ∧ Newer w.heap.size none lv.ownBlock
set_option maxRecDepth 100000 in
set_option maxHeartbeats 1000000 in
theorem copyAll_any (w : World) (F : Nat → Prop) (A : Option Addr) (c : Nat) (l : List Od) (hl : OdsS w w F A l) (hn : l.length ≤ 1000000) (hs : ∀ o ∈ l, o.legs.length ≤ 100000) :
    Calls Tryz.prog 27 #[.slice A l.length c, .func (.func 28) #[] #[]] w (RetN w l) := by
  have HL := Lib.hid hl
  have HS := Lib.hid hs
  have hen : ∀ args W, (callFunc 28 args).run Tryz.prog W = .ok (.enter 28 args) W := enters_of Tryz.func28 (by kernel_rfl) rfl
  clear hl hs
  go_enter Tryz.func27, Tryz.ntmps27
  go_wp2
  go_loopw [5, 10] (fun lv iv wr => CpRel w l lv iv wr) (fun _ iv _ => l.length - (intOf iv).toNat)
  case atStart => exact ⟨0, Nat.zero_le _, rfl, OwnN.nil _ _, Fr.refl _ _, .inl rfl⟩
  case round =>
    obtain ⟨k, hk, rfl, hown, hfr, hnew⟩ := hrel
    have hk62 : (k : Int) ≤ 1000000 := by omega
    by_cases hlt : k < l.length
    · obtain ⟨ad, v, rfl, _, hok, hg, hL, q0, q1, q2, q3, q4, q5, q6, q7, q8, q9⟩ := (HL.out.fr hfr (fun _ _ _ h => h)).at_ k hlt
      obtain ⟨B, d, rfl, hd1, hd2⟩ := hL.form
      have HTK : Hid (l.take (k + 1) = l.take k ++ [l[k]]) := List.take_succ_eq_append_getElem hlt
      have hlk : (l.take k).length = k := by rw [List.length_take]; omega
      have HLK := Lib.hid hlk
      have HC : Hid (∀ W, Fr No w W → Calls Tryz.prog 28 #[l[k].val (.slice B l[k].legs.length d)] W (OrdRet W l[k])) := fun W hW => copyO_any _ l[k] _ W (hL.no hW) (HS.out _ (List.getElem_mem hlt))
      have HOK : Hid (l[k].ok ∧ ∀ g ∈ l[k].legs, g.ok) := ⟨hok, hg⟩
      have HFR := Lib.hid hfr
      have HNW := Lib.hid hnew
      have HOWN := Lib.hid hown
      have HLT : Hid (k + 1 ≤ l.length) := hlt
      unfold OrdRet Od.val Od.cs at HC
      have HCS : Hid (∀ v, l[k].cs v = [.int .i64 l[k].cl, .int .i64 l[k].sq, .int .i64 l[k].kd, .string l[k].acct, .string l[k].peer, .int .i64 l[k].sum, v, .int .i64 l[k].per, .int .i64 l[k].hold, .string l[k].note]) := fun _ => rfl
      have HEP : Hid (∀ (wa w1 w2 w3 : World) (g g1 : Option Nat) (cells : List Value) (v : Value), Each (OdRF wr (New w.heap.size wr g)) 10 cells (l.take k) → (∀ k, g = some k → k < wr.heap.size) → w.heap.size ≤ wa.heap.size → Fr No wr wa → Fr No wa w1 → LgS w1 (New wa.heap.size w1 none) v l[k].legs → Fr No w1 w2 → Fr (AtO g) w2 w3 → (g1 = g ∨ g1 = some w2.heap.size) → Each (OdRF w3 (New w.heap.size w3 g1)) 10 (cells ++ l[k].cs v) (l.take k ++ [l[k]]))   := fun wa w1 w2 w3 g g1 cells v h0 hlt hB h1 h2 h3 h4 h5 h6 => eachN_put hB h0 hlt h1 h2 h3 h4 h5 h6 hok hg
      obtain ⟨cells, ho, hE⟩ := hown
      have HO := Lib.hid ho
      have HE := Lib.hid hE
      simp only [List.toArray] at HC
      generalize l[k].legs = L at *
      generalize l[k].cl = cl at *
      generalize l[k].sq = sq at *
      generalize l[k].kd = kd at *
      generalize l[k].acct = acct at *
      generalize l[k].peer = peer at *
      generalize l[k].sum = sum at *
      generalize l[k].per = per at *
      generalize l[k].hold = hold at *
      generalize l[k].note = note at *
      generalize l[k] = ok_ at *
      clear hok hg hL hE hlk ho hfr hnew
      go_wp2_with fail
      (with_reducible refine (HC.out _ (HFR.out.alloc _)).mono ?_)
      rintro e w1 ⟨A1, c1, rfl, hL1, hf1⟩
      have HL1 := Lib.hid hL1
      have HF1 := Lib.hid hf1
      have HSZ : Hid (w.heap.size ≤ wr.heap.size) := HFR.out.size
      clear hL1 hf1
      go_wp2_with (at_builtin; refine wpList_app _ rfl (.tmp 14) (.tmp 18) 22 22 rfl elO ((((HO.out.alloc _).fr HF1.out (fun _ _ h => h))).alloc _) rfl (Src.of_new (cs := #[.int .i64 cl, .int .i64 sq, .int .i64 kd, .string acct, .string peer, .int .i64 sum, .slice A1 L.length c1, .int .i64 per, .int .i64 hold, .string note]) (t := 31) w1.heap.size (heap_alloc_new w1 _) Tryz.underlying22 rfl (by simp [Value.oneCell'])) rfl (by rw [HLK.out]; simp only [maxLen]; omega) (by rw [HLK.out]; omega) ?_; intro v1 w3 hown3 hfr3 hnew3)
      go_roundw
      case rel =>
        refine ⟨k + 1, HLT.out, by go_num, ?_, ?_, ?_⟩
        · rw [HTK.out]
          refine ⟨_, by rw [List.length_append]; exact hown3, ?_⟩
          have h := HEP.out _ _ _ _ _ _ _ _ HE.out HO.out.lt (by rw [World.size_alloc]; have := HSZ.out; omega) ((Fr.refl _ _).alloc _) HF1.out HL1.out ((Fr.refl _ _).alloc _) hfr3 hnew3
          rw [HCS.out] at h
          exact h
        · refine (((HFR.out.alloc _).trans HF1.out).alloc _).trans' hfr3 fun i hi hlt => ?_
          have hi : _ = some i := hi
          have := newer_none HNW.out i hi
          omega
        · refine HNW.out.trans (Newer.of hnew3) ?_
          rw [World.size_alloc]
          have h1 := HF1.out.size
          rw [World.size_alloc] at h1
          have := HSZ.out
          omega
      case measure => have := HLT.out; simp [intOf]; omega
    · obtain rfl : k = l.length := by omega
      rw [List.take_length] at hown
      obtain ⟨A1, c1, rfl, h1, h2⟩ := hown.form
      go_wp2
      go_ret
      exact ⟨A1, c1, rfl, hown, hfr, fun j hj => newer_none hnew j hj⟩

/-! ### which orders a list lacks -/
def leftB (L : List Idk) (o : Od) : Bool := !(posF L o.id).isSome
/-- the closure: the map's variable at g, the map m -/
structure WoS (w : World) (g m : Nat) (L : List Idk) : Prop where
  cell : w.cell? ⟨g, 0, none⟩ = some (.map (some m))
  mp : IMp w m L
theorem WoS.no {w w' : World} {g m : Nat} {L : List Idk} (h : WoS w g m L) (hf : Fr No w w') : WoS w' g m L := ⟨hf.cell_some h.cell (fun h => h), h.mp.fr hf (fun h => h)⟩
end Go.Proofs.YtlanhclgbkhdlaaGreat
