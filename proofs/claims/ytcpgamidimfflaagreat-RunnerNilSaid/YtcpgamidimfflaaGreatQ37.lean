/- What the runner of lives does (lists). A runner that was made since w: its calls. Insts, entries, steps that came in: their readers. Entries that are the same, of any length. -/
import Derived.Test.YtcpgamidimfflaaGreatQ34
import Derived.Test.YtcpgamidimfflaaGreatQ36
import Derived.Test.YtcpgamidimfflaaGreatQ23
import Derived.Test.YtcpgamidimfflaaGreatQ17
import Derived.ChangeArms
import Derived.Test.YtcpgamidimfflaaGreatQ13
namespace Go.Proofs.YtcpgamidimfflaaGreat
open Go.RowKit Go.My Go.My.Kn
set_option linter.unusedSimpArgs false
set_option linter.unusedVariables false
def askE (seq : Int) (ds : List In2) : En := ⟨askOd seq 7 ⟨#[97]⟩ 0, false, ds⟩
theorem askE_right {i : In2} {seq : Int} {ds : List In2} (hi : rightI i = true) (hs : 1 ≤ seq ∧ seq ≤ 999) (hd : dsB i ds = true) : rightE i (askE seq ds) = true := by
  unfold rightE askE
  simp only
  have hn : nameB (⟨#[97]⟩ : ByteArray).data.toList = true := by decide
  rw [ask_right hs, hi, hd, if_neg (by decide), hn]
  rfl
theorem askO_ok {seq : Int} (hs : 1 ≤ seq ∧ seq ≤ 999) : (askOd seq 7 ⟨#[97]⟩ 0).ok := by
  unfold askOd Od.ok In64 maxLen
  simp only
  refine ⟨by omega, by omega, by omega, by decide, by decide, by omega, by omega, by omega, by decide⟩
def lvA : Ru := ⟨[((0, 1), askE 1 [(1, 1)])], fun j => decide (j = ((0, 1) : In2)) || false, [], [], bk0⟩
def lvB : Ru := ⟨[((0, 1), askE 1 [(1, 1)]), ((1, 1), askE 2 [])], fun j => decide (j = ((1, 1) : In2)) || (decide (j = ((0, 1) : In2)) || false), [], [], bk0⟩
theorem rightA : rightE (0, 1) (askE 1 [(1, 1)]) = true := askE_right (by decide) (by decide) (dsB_yes fun j hj _ => by
  have : j = 0 := by simpa using hj
  subst this
  show rightI (1, 1) = true ∧ ((1, 1) : In2) ≠ (0, 1) ∧ _
  exact ⟨by decide, by decide, fun h => absurd h (Nat.lt_irrefl 0)⟩)
theorem rightB' : rightE (1, 1) (askE 2 []) = true := askE_right (by decide) (by decide) (dsB_yes fun j hj _ => by simp at hj)
theorem lvA_eq : ru0.com (0, 1) (askE 1 [(1, 1)]) = lvA ∧ ru0.comE (0, 1) (askE 1 [(1, 1)]) = 0 := by
  unfold Ru.com Ru.comE
  rw [if_pos rightA, if_pos rightA]
  exact ⟨rfl, rfl⟩
theorem lvB_eq : lvA.com (1, 1) (askE 2 []) = lvB ∧ lvA.comE (1, 1) (askE 2 []) = 0 := by
  unfold Ru.com Ru.comE
  rw [if_pos rightB', if_pos rightB']
  have h : lvA.get (1, 1) = none := by
    show getS _ _ = none
    rw [getS_none]
    decide
  rw [h]
  refine ⟨?_, rfl⟩
  unfold insS lvA lvB
  simp [aheadI]
theorem lvA_inv : RuI lvA := lvA_eq.1 ▸ rui0.com (askO_ok (by decide))
theorem lvB_inv : RuI lvB := lvB_eq.1 ▸ lvA_inv.com (askO_ok (by decide))
theorem lvA_run {row : List In2} (h : RunOf lvA row) : row = [] := by
  cases row with
  | nil => rfl
  | cons a l =>
    obtain ⟨h1, _⟩ := (h.2.1 a).1 List.mem_cons_self
    have h2 : a = (0, 1) := by simpa [Ru.ks, lvA] using h1.1
    subst h2
    have h3 : ((1, 1) : In2) ∈ lvA.ks := h1.2 _ (.one h1.1 (by
      show ((1, 1) : In2) ∈ ((getS lvA.S (0, 1)).map En.deps).getD []
      have : getS lvA.S (0, 1) = some (askE 1 [(1, 1)]) := rfl
      rw [this]
      exact List.mem_singleton.2 rfl))
    simp [Ru.ks, lvA] at h3
theorem lvB_dp : lvB.dp (0, 1) = [(1, 1)] ∧ lvB.dp (1, 1) = [] := ⟨rfl, rfl⟩
theorem lvB_no : ∀ b, ¬ Dp2 lvB.ks lvB.dp (1, 1) b := fun b hb => by
  have key : ∀ c, Dp2 lvB.ks lvB.dp (1, 1) c → False := fun c hc => by
    induction hc with
    | one _ h => rw [lvB_dp.2] at h; cases h
    | more _ _ _ ih => exact ih
  exact key b hb
theorem lvB_opn : Opn lvB.ks lvB.dp (1, 1) ∧ Opn lvB.ks lvB.dp (0, 1) := by
  refine ⟨⟨by simp [Ru.ks, lvB], fun b hb => absurd hb (lvB_no b)⟩, ⟨by simp [Ru.ks, lvB], fun b hb => ?_⟩⟩
  have key : ∀ c, Dp2 lvB.ks lvB.dp (0, 1) c → c = (1, 1) := fun c hc => by
    induction hc with
    | one _ h => rw [lvB_dp.1] at h; exact List.mem_singleton.1 h
    | more _ _ h ih => rw [ih, lvB_dp.2] at h; cases h
  rw [key b hb]
  simp [Ru.ks, lvB]
theorem lvB_run {row : List In2} (h : RunOf lvB row) : row = [(1, 1), (0, 1)] := by
  have m1 : ((1, 1) : In2) ∈ row := (h.2.1 _).2 ⟨lvB_opn.1, rfl⟩
  have m0 : ((0, 1) : In2) ∈ row := (h.2.1 _).2 ⟨lvB_opn.2, rfl⟩
  have hb : bef ((1, 1) : In2) (0, 1) row := h.ord lvB_inv m0 m1 (.one lvB_opn.2.1 (by rw [lvB_dp.1]; exact List.mem_singleton.2 rfl)) (fun k => absurd k (lvB_no _)) (by decide)
  have hm : ∀ x ∈ row, x = (0, 1) ∨ x = (1, 1) := fun x hx => by
    have h1 := ((h.2.1 x).1 hx).1.1
    simpa [Ru.ks, lvB] using h1
  match row, h.1, m1, m0, hb, hm with
  | [], _, m1, _, _, _ => cases m1
  | a :: l, hn, m1, m0, hb, hm =>
    rw [List.nodup_cons] at hn
    rcases hm a List.mem_cons_self with ea | ea
    · subst ea
      rcases hb with ⟨e, _⟩ | hb
      · cases e
      · exact absurd (bef_mem hb).2 hn.1
    · subst ea
      have m0' : ((0, 1) : In2) ∈ l := by
        rcases List.mem_cons.1 m0 with e | e
        · cases e
        · exact e
      cases l with
      | nil => cases m0'
      | cons b t =>
        have hn2 := List.nodup_cons.1 hn.2
        rcases hm b (by simp) with eb | eb
        · subst eb
          cases t with
          | nil => rfl
          | cons c t =>
            rcases hm c (by simp) with ec | ec
            · subst ec; exact absurd List.mem_cons_self hn2.1
            · subst ec; exact absurd (by simp) hn.1
        · subst eb; exact absurd List.mem_cons_self hn.1
def lvO2 : Od := askOd 2 7 ⟨#[97]⟩ 0
def lvO1 : Od := askOd 1 7 ⟨#[97]⟩ 0
theorem lv_do : doR bk0 lvO2 = ⟨6, 0, 0, 0⟩ ∧ doB bk0 lvO2 = bk0 ∧ doR bk0 lvO1 = ⟨6, 0, 0, 0⟩ ∧ doB bk0 lvO1 = bk0 := by
  have h2 := ask_do (b := bk0) (s := 2) (by decide) ⟨#[97]⟩
  have h1 := ask_do (b := bk0) (s := 1) (by decide) ⟨#[97]⟩
  have hn : nameB (⟨#[97]⟩ : ByteArray).data.toList = true := by decide
  rw [if_pos hn] at h1 h2
  have ha : aboutR bk0.S (⟨#[97]⟩ : ByteArray).data.toList 0 = ⟨6, 0, 0, 0⟩ := rfl
  rw [ha] at h1 h2
  exact ⟨h2.1, h2.2, h1.1, h1.2⟩
theorem exec_did_new {t : Ru} {i : In2} {e : En} (g : t.get i = some e) (hn : e.none = false) (hl : lookT t.did t.tr e.o.id = none) : (t.exec i).did = t.did ++ [e.o] := by
  unfold Ru.exec
  rw [g]
  simp only
  rw [if_neg (by rw [hn]; decide)]
  unfold Ru.exO
  have : lookT (t.ex1 i).did (t.ex1 i).tr e.o.id = none := hl
  rw [this]
  rfl
theorem lvB_D : lvB.execsD [(1, 1), (0, 1)] = [⟨(1, 1), (0, 2), ⟨6, 0, 0, 0⟩, false⟩, ⟨(0, 1), (0, 1), ⟨6, 0, 0, 0⟩, false⟩] ∧ (lvB.execs [(1, 1), (0, 1)]).did.length = 2 := by
  have g1 : lvB.get (1, 1) = some (askE 2 []) := rfl
  have e1 : lvB.exec (1, 1) = { lvB.ex1 (1, 1) with did := [lvO2], tr := [⟨6, 0, 0, 0⟩], b := bk0 } := by
    unfold Ru.exec
    rw [g1]
    show (lvB.ex1 (1, 1)).exO lvO2 = _
    unfold Ru.exO
    have : lookT (lvB.ex1 (1, 1)).did (lvB.ex1 (1, 1)).tr lvO2.id = none := rfl
    rw [this]
    show Ru.mk _ _ ([] ++ [lvO2]) ([] ++ [doR bk0 lvO2]) (doB bk0 lvO2) = _
    rw [lv_do.1, lv_do.2.1]
    rfl
  have d1 : lvB.execD (1, 1) = [⟨(1, 1), (0, 2), ⟨6, 0, 0, 0⟩, false⟩] := by
    unfold Ru.execD
    rw [g1]
    show [lvB.exD (1, 1) lvO2] = _
    unfold Ru.exD
    have : lookT lvB.did lvB.tr lvO2.id = none := rfl
    rw [this]
    show [Dd.mk _ _ (doR bk0 lvO2) false] = _
    rw [lv_do.1]
    rfl
  have g2 : (lvB.exec (1, 1)).get (0, 1) = some (askE 1 [(1, 1)]) := by rw [exec_get]; rfl
  have hl : lookT (lvB.exec (1, 1)).did (lvB.exec (1, 1)).tr lvO1.id = none := by rw [e1]; rfl
  have hb : (lvB.exec (1, 1)).b = bk0 := by rw [e1]
  have hdid : (lvB.exec (1, 1)).did = [lvO2] := by rw [e1]
  refine ⟨?_, ?_⟩
  · show lvB.execD (1, 1) ++ ((lvB.exec (1, 1)).execD (0, 1) ++ []) = _
    rw [d1, List.append_nil]
    have d2 : (lvB.exec (1, 1)).execD (0, 1) = [⟨(0, 1), (0, 1), ⟨6, 0, 0, 0⟩, false⟩] := by
      unfold Ru.execD
      rw [g2]
      show [(lvB.exec (1, 1)).exD (0, 1) lvO1] = _
      unfold Ru.exD
      rw [hl]
      show [Dd.mk _ _ (doR (lvB.exec (1, 1)).b lvO1) false] = _
      rw [hb, lv_do.2.2.1]
      rfl
    rw [d2]
    rfl
  · show ((lvB.exec (1, 1)).exec (0, 1)).did.length = 2
    rw [exec_did_new g2 rfl hl, hdid]
    rfl
theorem lvB_miss {M : List In2} (h : MissOf (lvB.execs [(1, 1), (0, 1)]) M) : M = [] := by
  cases M with
  | nil => rfl
  | cons a M =>
    obtain ⟨i, hi, _⟩ := (h.2 a).1 List.mem_cons_self
    unfold Ru.ws at hi
    rw [List.mem_filter, execs_ks, (execs_S _ _).2] at hi
    have h1 : i = (0, 1) ∨ i = (1, 1) := by simpa [Ru.ks, lvB] using hi.1
    rcases h1 with rfl | rfl
    · have := hi.2; simp at this
    · have := hi.2; simp at this
end Go.Proofs.YtcpgamidimfflaaGreat
namespace Go.Proofs.YtcpgamidimfflaaGreat
open Go.RowKit Go.My Go.Maps
set_option linter.unusedSimpArgs false
set_option linter.unusedVariables false
attribute [local go_sem ↓] Go.wp_at_zero Go.wp_at_succ
def Lv (w : World) (p : Nat) (s : Ru) (W : World) : Prop := ∃ r : Pr, r.p = p ∧ RnS W r s ∧ Fr No w W ∧ ∀ k, r.all k → w.heap.size ≤ k
theorem Lv.no {w W W' : World} {p : Nat} {s : Ru} (h : Lv w p s W) (hf : Fr No W W') : Lv w p s W' := by
  obtain ⟨r, h1, h2, h3, h4⟩ := h
  exact ⟨r, h1, h2.no hf, h3.trans hf, h4⟩
theorem Lv.fr {w W : World} {p : Nat} {s : Ru} (h : Lv w p s W) : Fr No w W := by
  obtain ⟨r, h1, h2, h3, h4⟩ := h
  exact h3
theorem Lv.chg {w W W' : World} {r : Pr} {s : Ru} (h3 : Fr No w W) (h4 : ∀ k, r.all k → w.heap.size ≤ k) (hc : ChgRn r W s W') : Lv w r.p s W' := by
  obtain ⟨r', e, h5, h6, h7⟩ := hc
  refine ⟨r', e, h5, h3.trans' h6 (fun k hk hlt => by have := h4 k (.inl hk); omega), fun k hk => ?_⟩
  rcases h7 k hk with h | h
  · exact h4 k h
  · have := h3.size; omega
theorem lv_new (w W : World) (h : Fr No w W) : Calls Tryz.prog 10 #[] W fun e W' => ∃ p, e = .returned (.pointer (some ⟨p, 0, none⟩)) ∧ Lv w p ru0 W' ∧ Fr No W W' := (rnew_any W).mono fun e W' he => by
  obtain ⟨r, h1, h2, h3, h4⟩ := he
  exact ⟨r.p, h1, ⟨r, rfl, h2, h.trans h3, fun k hk => Nat.le_trans h.size (h4 k hk)⟩, h3⟩
theorem lv_commit {w W : World} {p : Nat} {s : Ru} (h : Lv w p s W) {F : Nat → Prop} (i : In2) {e : En} {v : Value} {A : Option Addr} {c : Nat} (hs : EnS W F e v A c) (hd : e.deps.length ≤ 1000000) :
    Calls Tryz.prog 15 #[.pointer (some ⟨p, 0, none⟩), .agg #[.int .i64 i.1, .int .i64 i.2], e.val v (.slice A e.deps.length c)] W fun x W' => x = .returned (.int .i64 (s.comE i e)) ∧ Lv w p (s.com i e) W' := by
  obtain ⟨r, rfl, h2, h3, h4⟩ := h
  exact (rcommit_any W r s F i e v A c h2 hs hd).mono fun x W' hx => ⟨hx.1, Lv.chg h3 h4 hx.2⟩
theorem lv_run {w W : World} {p : Nat} {s : Ru} (h : Lv w p s W) (hn : s.ks.length ≤ 60) (hm : ∀ i, (s.dp i).length ≤ 30) :
    Calls Tryz.prog 18 #[.pointer (some ⟨p, 0, none⟩)] W fun e W' => ∃ row, RunOf s row ∧ RetDd W (s.execsD row) e W' ∧ Lv w p (s.execs row) W' := by
  obtain ⟨r, rfl, h2, h3, h4⟩ := h
  refine (rrun_any W r s h2 hn hm).mono fun e W' he => ?_
  obtain ⟨row, k1, k2, k3⟩ := he
  exact ⟨row, k1, k2, Lv.chg h3 h4 k3⟩
theorem lv_list {w W : World} {p : Nat} {s : Ru} (h : Lv w p s W) : Calls Tryz.prog 23 #[.pointer (some ⟨p, 0, none⟩)] W (RetN W s.did) := by
  obtain ⟨r, rfl, h2, h3, h4⟩ := h
  exact rlist_any W r s h2.toRnM
theorem lv_miss {w W : World} {p : Nat} {s : Ru} (h : Lv w p s W) (hm : ∀ i, (s.dp i).length ≤ 10000) : Calls Tryz.prog 28 #[.pointer (some ⟨p, 0, none⟩)] W fun e W' => ∃ M, MissOf s M ∧ M.length ≤ 80000 ∧ RetOwn W 30 2 none M.length (ins2 M) e W' := by
  obtain ⟨r, rfl, h2, h3, h4⟩ := h
  exact rmiss_any W r s h2 hm
set_option maxRecDepth 100000 in
set_option maxHeartbeats 1000000 in
theorem ask14_any (w : World) (seq : Int) (A : Option Addr) (c : Nat) (ds : List In2) :
    Calls Tryz.prog 39 #[.int .i64 seq, .slice A ds.length c] w fun e w' => e = .returned ((askE seq ds).val (.slice none 0 0) (.slice A ds.length c)) ∧ Fr No w w' := by
  unfold askE askOd En.val
  simp only
  go_enter Tryz.func39, Tryz.ntmps39
  go_wp2
  have hd := Blk.new w 38 #[.int .i64 0, .int .i64 seq, .int .i64 7, .string ⟨#[97]⟩, .string ⟨#[]⟩, .int .i64 0, .slice none 0 0, .int .i64 0, .int .i64 0, .string ⟨#[]⟩, .bool false, .slice A ds.length c]
  have d0 := hd.cell 0
  have d1 := hd.cell 1
  have d2 := hd.cell 2
  have d3 := hd.cell 3
  have d4 := hd.cell 4
  have d5 := hd.cell 5
  have d6 := hd.cell 6
  have d7 := hd.cell 7
  have d8 := hd.cell 8
  have d9 := hd.cell 9
  have d10 := hd.cell 10
  have d11 := hd.cell 11
  simp only [List.getElem?_toArray, List.getElem?_cons_zero, List.getElem?_cons_succ] at d0 d1 d2 d3 d4 d5 d6 d7 d8 d9 d10 d11
  refine bodyPost_ret (v := .agg #[.int .i64 0, .int .i64 seq, .int .i64 7, .string ⟨#[97]⟩, .string ⟨#[]⟩, .int .i64 0, .slice none 0 0, .int .i64 0, .int .i64 0, .string ⟨#[]⟩, .bool false, .slice A ds.length c]) (by simp [results, Tryz.results39, go_sem, d0, d1, d2, d3, d4, d5, d6, d7, d8, d9, d10, d11]) rfl ?_
  exact ⟨rfl, (Fr.refl _ _).alloc _⟩
theorem askE_mem {w : World} {F : Nat → Prop} {seq : Int} (hs : 1 ≤ seq ∧ seq ≤ 999) {A : Option Addr} {c : Nat} {ds : List In2} (hr : Rd w F 2 A ds.length (ins2 ds)) (hc : ds.length ≤ c ∧ c ≤ maxLen) : EnS w F (askE seq ds) (.slice none 0 0) A c := ⟨askO_ok hs, LgS_nil14 w F, hr, hc⟩
set_option maxRecDepth 100000 in
set_option maxHeartbeats 2000000 in
theorem lives14 (w : World) : Calls Tryz.prog 9 #[] w (RetTrue w) := by
  have HNW := Lib.hid (lv_new w w (Fr.refl _ _))
  have HAS1 : Hid (∀ W g c, Calls Tryz.prog 39 #[.int .i64 1, .slice (some ⟨g, 0, none⟩) 1 c] W fun e w' => e = .returned (.agg #[.int .i64 0, .int .i64 1, .int .i64 7, .string ⟨#[97]⟩, .string ⟨#[]⟩, .int .i64 0, .slice none 0 0, .int .i64 0, .int .i64 0, .string ⟨#[]⟩, .bool false, .slice (some ⟨g, 0, none⟩) 1 c]) ∧ Fr No W w') := Lib.hid fun W g c => ask14_any W 1 (some ⟨g, 0, none⟩) c [(1, 1)]
  have HAS2 : Hid (∀ W, Calls Tryz.prog 39 #[.int .i64 2, .slice none 0 0] W fun e w' => e = .returned (.agg #[.int .i64 0, .int .i64 2, .int .i64 7, .string ⟨#[97]⟩, .string ⟨#[]⟩, .int .i64 0, .slice none 0 0, .int .i64 0, .int .i64 0, .string ⟨#[]⟩, .bool false, .slice none 0 0]) ∧ Fr No W w') := Lib.hid fun W => ask14_any W 2 none 0 []
  have HC1 : Hid (∀ W p g, Lv w p ru0 W → Blk W g 30 #[.int .i64 1, .int .i64 1] → Calls Tryz.prog 15 #[.pointer (some ⟨p, 0, none⟩), .agg #[.int .i64 0, .int .i64 1], .agg #[.int .i64 0, .int .i64 1, .int .i64 7, .string ⟨#[97]⟩, .string ⟨#[]⟩, .int .i64 0, .slice none 0 0, .int .i64 0, .int .i64 0, .string ⟨#[]⟩, .bool false, .slice (some ⟨g, 0, none⟩) 1 1]] W fun x W' => x = .returned (.int .i64 0) ∧ Lv w p lvA W') := Lib.hid fun W p g h hb => by
    have hr : Rd W (fun _ => True) 2 (some ⟨g, 0, none⟩) 1 (ins2 [(1, 1)]) := ⟨rfl, fun _ => ⟨_, rfl, trivial, fun j u hu => by
      rw [add_zero, hb.cell, List.getElem?_toArray]
      exact hu⟩⟩
    have h1 := lv_commit h (0, 1) (e := askE 1 [(1, 1)]) (askE_mem (by decide) (ds := [(1, 1)]) (c := 1) hr (And.intro (Nat.le_refl 1) (by decide))) (by decide)
    rw [lvA_eq.1, lvA_eq.2] at h1
    exact h1
  have HC2 : Hid (∀ W p, Lv w p lvA W → Calls Tryz.prog 15 #[.pointer (some ⟨p, 0, none⟩), .agg #[.int .i64 1, .int .i64 1], .agg #[.int .i64 0, .int .i64 2, .int .i64 7, .string ⟨#[97]⟩, .string ⟨#[]⟩, .int .i64 0, .slice none 0 0, .int .i64 0, .int .i64 0, .string ⟨#[]⟩, .bool false, .slice none 0 0]] W fun x W' => x = .returned (.int .i64 0) ∧ Lv w p lvB W') := Lib.hid fun W p h => by
    have h1 := lv_commit h (1, 1) (e := askE 2 []) (askE_mem (F := fun _ => True) (A := none) (c := 0) (ds := []) (by decide) Rd.none_ (And.intro (Nat.le_refl 0) (Nat.zero_le _))) (by decide)
    rw [lvB_eq.1, lvB_eq.2] at h1
    exact h1
  have HR1 : Hid (∀ W p, Lv w p lvA W → Calls Tryz.prog 18 #[.pointer (some ⟨p, 0, none⟩)] W fun e W' => ∃ A c, e = .returned (.slice A 0 c) ∧ Lv w p lvA W') := Lib.hid fun W p h => by
    refine (lv_run h (by decide) (fun i => ?_)).mono fun e W' he => ?_
    · unfold Ru.dp
      cases hg : lvA.get i with
      | none => simp
      | some e =>
        have := getS_some hg
        simp [lvA] at this
        rw [this.2]
        decide
    · obtain ⟨row, k1, ⟨A, c, k2, _, _⟩, k3⟩ := he
      obtain rfl := lvA_run k1
      exact ⟨A, c, k2, k3⟩
  have HDB : ∀ i, (lvB.dp i).length ≤ 30 := fun i => by
    unfold Ru.dp
    cases hg : lvB.get i with
    | none => simp
    | some e =>
      have := getS_some hg
      simp [lvB] at this
      rcases this with h | h
      · rw [h.2]; decide
      · rw [h.2]; decide
  have HR2 : Hid (∀ W p, Lv w p lvB W → Calls Tryz.prog 18 #[.pointer (some ⟨p, 0, none⟩)] W fun e W' => ∃ g c, e = .returned (.slice (some ⟨g, 0, none⟩) 2 c) ∧ W'.cell? ⟨g, 3, none⟩ = some (.int .i64 2) ∧ W'.cell? ⟨g, 13, none⟩ = some (.int .i64 6) ∧ Lv w p (lvB.execs [(1, 1), (0, 1)]) W') := Lib.hid fun W p h => by
    refine (lv_run h (by decide) HDB).mono fun e W' he => ?_
    obtain ⟨row, k1, ⟨A, c, k2, k4, _⟩, k3⟩ := he
    obtain rfl := lvB_run k1
    rw [lvB_D.1] at k2 k4
    obtain ⟨ad, hA, hF, hc⟩ := k4.rd.2 (by decide)
    rcases k4.2 with ⟨hv, h0⟩ | ⟨g, cap, cur, hv, _⟩
    · cases h0
    · injection hv with hv _ _
      subst hv
      injection hA with hA
      subst hA
      refine ⟨g, c, k2, ?_, ?_, k3⟩
      · have := hc 3 _ rfl
        rwa [add_zero] at this
      · have := hc 13 _ rfl
        rwa [add_zero] at this
  have HLS : Hid (∀ W p, Lv w p (lvB.execs [(1, 1), (0, 1)]) W → Calls Tryz.prog 23 #[.pointer (some ⟨p, 0, none⟩)] W fun e W' => ∃ A c, e = .returned (.slice A 2 c) ∧ Fr No W W') := Lib.hid fun W p h => by
    refine (lv_list h).mono fun e W' he => ?_
    obtain ⟨A, c, k1, k2, k3, k4⟩ := he
    rw [lvB_D.2] at k1
    exact ⟨A, c, k1, k3⟩
  have HMS : Hid (∀ W p, Lv w p (lvB.execs [(1, 1), (0, 1)]) W → Calls Tryz.prog 28 #[.pointer (some ⟨p, 0, none⟩)] W fun e W' => ∃ A c, e = .returned (.slice A 0 c) ∧ Fr No W W') := Lib.hid fun W p h => by
    refine (lv_miss h (fun i => by rw [execs_dp]; have := HDB i; omega)).mono fun e W' he => ?_
    obtain ⟨M, k1, _, v, k2, k3, k4, _⟩ := he
    obtain rfl := lvB_miss k1
    obtain ⟨A, c, rfl, _, _⟩ := k3.form
    exact ⟨A, c, k2, fr_at_none k4⟩
  clear HDB
  go_enter Tryz.func9, Tryz.ntmps9
  go_upto_region 2 with (go_at_call 10; (with_reducible refine HNW.out.mono ?_); rintro _ w1 ⟨p, rfl, hL1, -⟩; have HL1 := Lib.hid hL1; clear hL1)
  have hb2 := Blk.new w1 30 #[.int .i64 1, .int .i64 1]
  have HB2 := Lib.hid hb2
  have HL2 : Hid (Lv w p ru0 (w1.alloc (.cells #[.int .i64 1, .int .i64 1] 30))) := Lib.hid (HL1.out.no ((Fr.refl _ _).alloc _))
  clear hb2 HNW HL1
  go_upto_region 3 with (first
    | (go_at_call 39; (with_reducible refine (HAS1.out _ _ _).mono ?_); rintro _ w3 ⟨rfl, hf3⟩; have HF3 := Lib.hid hf3; clear hf3)
    | (go_at_call 15; (with_reducible refine (HC1.out w3 p _ (HL2.out.no HF3.out) (HB2.out.fr HF3.out (fun h => h))).mono ?_); rintro _ w4 ⟨rfl, hl4⟩; have HL4 := Lib.hid hl4; clear hl4))
  go_upto_region 4 with (go_at_call 18; (with_reducible refine (HR1.out w4 p HL4.out).mono ?_); rintro _ w5 ⟨A5, c5, rfl, hl5⟩; have HL5 := Lib.hid hl5; clear hl5)
  go_upto_region 5 with (first
    | (go_at_call 39; (with_reducible refine (HAS2.out _).mono ?_); rintro _ w6 ⟨rfl, hf6⟩; have HF6 := Lib.hid hf6; clear hf6)
    | (go_at_call 15; (with_reducible refine (HC2.out w6 p (HL5.out.no HF6.out)).mono ?_); rintro _ w7 ⟨rfl, hl7⟩; have HL7 := Lib.hid hl7; clear hl7))
  go_upto_region 6 with (go_at_call 18; (with_reducible refine (HR2.out w7 p HL7.out).mono ?_); rintro _ w8 ⟨g8, c8, rfl, q3, q13, hl8⟩; have HL8 := Lib.hid hl8; clear hl8)
  clear HL2 HB2 HF3 HL4 HL5 HF6 HL7 HAS1 HAS2 HC1 HC2 HR1 HR2
  go_wp2_with (first
    | (go_at_call 23; (with_reducible refine (HLS.out w8 p HL8.out).mono ?_); rintro _ w9 ⟨A9, c9, rfl, hf9⟩; have HF9 := Lib.hid hf9; clear hf9)
    | (go_at_call 28; (with_reducible refine (HMS.out w9 p (HL8.out.no HF9.out)).mono ?_); rintro _ wz ⟨Az, cz, rfl, hfz⟩; have HFZ := Lib.hid hfz; clear hfz))
  go_ret
  exact ⟨rfl, ((HL8.out.fr.trans HF9.out).trans HFZ.out).belowNo⟩
end Go.Proofs.YtcpgamidimfflaaGreat
namespace Go.Proofs.YtcpgamidimfflaaGreat
open Go.RowKit Go.My Go.Maps
set_option linter.unusedSimpArgs false
set_option linter.unusedVariables false
def InR (cs : List Value) (i : In2) : Prop := cs = encI i ∧ IdOk i
theorem each_ins : ∀ (L : List In2) (cells : List Value), Each InR 2 cells L → cells = ins2 L ∧ ∀ i ∈ L, IdOk i
  | [], cells, h => by
    have := h.1
    simp at this
    rw [this]
    exact ⟨rfl, fun i h => by cases h⟩
  | g :: r, cells, h => by
    obtain ⟨h0, hk⟩ := h.2 0 g rfl
    rw [Nat.zero_mul, List.drop_zero] at h0
    obtain ⟨hr, hq⟩ := each_ins r (cells.drop 2) ⟨by rw [List.length_drop, h.1, List.length_cons]; omega, fun i x hx => by
      have := h.2 (i + 1) x (by rw [List.getElem?_cons_succ]; exact hx)
      rw [List.drop_drop]
      rwa [show 2 + i * 2 = (i + 1) * 2 by omega]⟩
    refine ⟨?_, fun i hi => ?_⟩
    · rw [ins2_cons]
      have e := List.take_append_drop 2 cells
      rw [h0, hr] at e
      exact e.symm
    · rcases List.mem_cons.1 hi with rfl | hi
      · exact hk
      · exact hq i hi
def EnI (w : World) (e : En) (v : Value) (A : Option Addr) (c : Nat) : Prop := EnS w (Lt w.heap.size) e v A c ∧ (∀ g ∈ e.o.legs, g.ok) ∧ ∀ d ∈ e.deps, IdOk d
def En.cs (e : En) (v d : Value) : List Value := e.o.cs v ++ [.bool e.none, d]
structure Sp where
  i : In2
  e : En
  run : Bool
def Sp.cs (s : Sp) (v d : Value) : List Value := encI s.i ++ (s.e.cs v d ++ [.bool s.run])
def SpR (w0 : World) (cs : List Value) (s : Sp) : Prop := ∃ v A c, cs = s.cs v (.slice A s.e.deps.length c) ∧ EnI w0 s.e v A c ∧ IdOk s.i
def SpsS (w0 w : World) (F : Nat → Prop) (A : Option Addr) (l : List Sp) : Prop := ∃ cells, Rd w F 15 A l.length cells ∧ Each (SpR w0) 15 cells l
section
open Go.ChangeShapes Go.WideShapes
variable {H : Type} {enc : TypeId × Value → H} {w : World} {base : Nat} {spare : Nat → Bool} {held : Bool}
set_option maxRecDepth 100000 in
theorem open_in {n : Nat} {cs : List Value} {x : DataW H × List MemPlace} (h : DataW.trod enc Tryz.prog w base spare held n 30 cs = some x) : ∃ i : In2, InR cs i := by
  obtain ⟨xs, m, _, _, hl, _, hf⟩ := DataW.trod_struct Tryz.underlying30 h
  have hC : Tryz.prog.cellsOf 30 = 2 := by kernel_rfl
  have C3 : Tryz.prog.cellsOf 3 = 1 := by kernel_rfl
  rw [hC] at hl
  match cs, hl with
  | [v0, v1], _ =>
    have f0 : DataW.trod enc Tryz.prog w base spare held m 3 [v0] = xs[0]? := by have := hf 0 _ rfl; simpa [C3] using this
    have f1 : DataW.trod enc Tryz.prog w base spare held m 3 [v1] = xs[1]? := by have := hf 1 _ rfl; simpa [C3] using this
    have g : ∀ i, i < xs.length → ∃ y, xs[i]? = some y := fun i hi => ⟨xs[i], List.getElem?_eq_getElem hi⟩
    have hxl : xs.length = 2 := by assumption
    obtain ⟨y0, e0⟩ := g 0 (by omega)
    obtain ⟨y1, e1⟩ := g 1 (by omega)
    rw [e0] at f0; rw [e1] at f1
    obtain ⟨k0, hk0, _, wk0⟩ := DataW.trod_int Tryz.underlying3 f0
    obtain ⟨k1, hk1, _, wk1⟩ := DataW.trod_int Tryz.underlying3 f1
    simp only [List.cons.injEq, and_true] at hk0 hk1
    subst hk0 hk1
    exact ⟨(k0, k1), rfl, bounds_i64 wk0, bounds_i64 wk1⟩
set_option maxRecDepth 100000 in
theorem open_en {n : Nat} {cs : List Value} {x : DataW H × List MemPlace} (h : DataW.trod enc Tryz.prog w base spare held n 38 cs = some x) : ∃ (e : En) (v : Value) (A : Option Addr) (c : Nat), cs = e.cs v (.slice A e.deps.length c) ∧ EnI w e v A c := by
  obtain ⟨xs, m, _, _, hl, _, hf⟩ := DataW.trod_struct Tryz.underlying38 h
  have hC : Tryz.prog.cellsOf 38 = 12 := by kernel_rfl
  have C0 : Tryz.prog.cellsOf 35 = 10 := by kernel_rfl
  have C1 : Tryz.prog.cellsOf 4 = 1 := by kernel_rfl
  have C2 : Tryz.prog.cellsOf 36 = 1 := by kernel_rfl
  rw [hC] at hl
  match cs, hl with
  | [v0, v1, v2, v3, v4, v5, v6, v7, v8, v9, v10, v11], _ =>
    have f0 : DataW.trod enc Tryz.prog w base spare held m 35 [v0, v1, v2, v3, v4, v5, v6, v7, v8, v9] = xs[0]? := by have := hf 0 _ rfl; simpa [C0, C1, C2] using this
    have f1 : DataW.trod enc Tryz.prog w base spare held m 4 [v10] = xs[1]? := by have := hf 1 _ rfl; simpa [C0, C1, C2] using this
    have f2 : DataW.trod enc Tryz.prog w base spare held m 36 [v11] = xs[2]? := by have := hf 2 _ rfl; simpa [C0, C1, C2] using this
    have g : ∀ i, i < xs.length → ∃ y, xs[i]? = some y := fun i hi => ⟨xs[i], List.getElem?_eq_getElem hi⟩
    have hxl : xs.length = 3 := by assumption
    obtain ⟨y0, e0⟩ := g 0 (by omega)
    obtain ⟨y1, e1⟩ := g 1 (by omega)
    obtain ⟨y2, e2⟩ := g 2 (by omega)
    rw [e0] at f0; rw [e1] at f1; rw [e2] at f2
    obtain ⟨o, v, ho, hoi⟩ := open_od f0
    obtain ⟨b, hb, _⟩ := DataW.trod_bool Tryz.underlying4 f1
    obtain ⟨A, c, cells, L, h6, hrd, hlc, hcm, hE⟩ := open_each InR Tryz.underlying36 (size := 2) (by kernel_rfl) (by omega) (fun n cs x hx => open_in hx) f2
    obtain ⟨rfl, hk⟩ := each_ins L cells hE
    simp only [List.cons.injEq, and_true] at hb h6
    subst hb h6
    refine ⟨⟨o, b, L⟩, v, A, c, ?_, ⟨hoi.1, hoi.2.2, hrd, hlc, hcm⟩, hoi.2.1, hk⟩
    unfold En.cs
    simp only
    rw [← ho]
    rfl
set_option maxRecDepth 100000 in
theorem open_sp {n : Nat} {cs : List Value} {x : DataW H × List MemPlace} (h : DataW.trod enc Tryz.prog w base spare held n 40 cs = some x) : ∃ s : Sp, SpR w cs s := by
  obtain ⟨xs, m, _, _, hl, _, hf⟩ := DataW.trod_struct Tryz.underlying40 h
  have hC : Tryz.prog.cellsOf 40 = 15 := by kernel_rfl
  have C0 : Tryz.prog.cellsOf 30 = 2 := by kernel_rfl
  have C1 : Tryz.prog.cellsOf 38 = 12 := by kernel_rfl
  have C2 : Tryz.prog.cellsOf 4 = 1 := by kernel_rfl
  rw [hC] at hl
  match cs, hl with
  | [v0, v1, v2, v3, v4, v5, v6, v7, v8, v9, v10, v11, v12, v13, v14], _ =>
    have f0 : DataW.trod enc Tryz.prog w base spare held m 30 [v0, v1] = xs[0]? := by have := hf 0 _ rfl; simpa [C0, C1, C2] using this
    have f1 : DataW.trod enc Tryz.prog w base spare held m 38 [v2, v3, v4, v5, v6, v7, v8, v9, v10, v11, v12, v13] = xs[1]? := by have := hf 1 _ rfl; simpa [C0, C1, C2] using this
    have f2 : DataW.trod enc Tryz.prog w base spare held m 4 [v14] = xs[2]? := by have := hf 2 _ rfl; simpa [C0, C1, C2] using this
    have g : ∀ i, i < xs.length → ∃ y, xs[i]? = some y := fun i hi => ⟨xs[i], List.getElem?_eq_getElem hi⟩
    have hxl : xs.length = 3 := by assumption
    obtain ⟨y0, e0⟩ := g 0 (by omega)
    obtain ⟨y1, e1⟩ := g 1 (by omega)
    obtain ⟨y2, e2⟩ := g 2 (by omega)
    rw [e0] at f0; rw [e1] at f1; rw [e2] at f2
    obtain ⟨i, hi, hio⟩ := open_in f0
    obtain ⟨e, v, A, c, he, hei⟩ := open_en f1
    obtain ⟨b, hb, _⟩ := DataW.trod_bool Tryz.underlying4 f2
    simp only [List.cons.injEq, and_true] at hb
    subst hb
    refine ⟨⟨i, e, b⟩, v, A, c, ?_, hei, hio⟩
    unfold Sp.cs
    simp only
    rw [← hi, ← he]
    rfl
theorem open_sps {fuel : Nat} {cs : List Value} {x : DataW H × List MemPlace} (h : DataW.trod enc Tryz.prog w base spare held fuel 22 cs = some x) :
    ∃ (A : Option Addr) (c : Nat) (l : List Sp), cs = [.slice A l.length c] ∧ SpsS w w (Lt w.heap.size) A l ∧ l.length ≤ c ∧ c ≤ maxLen := by
  obtain ⟨A, c, cells, l, h1, h2, h3, h4, h5⟩ := open_each (SpR w) Tryz.underlying22 (size := 15) (by kernel_rfl) (by omega) (fun n cs x hx => open_sp hx) h
  exact ⟨A, c, l, h1, ⟨cells, h2, h5⟩, h3, h4⟩
set_option maxRecDepth 100000 in
theorem open_inp {r : Reach} {b0 : Nat} {v : Value} {d : DataW H} {p : List MemPlace} (hv : Value.okWide Tryz.prog w r b0 30 v)
    (h : DataW.Trod enc Tryz.prog w 0 (fun _ => true) true 30 v d p) : ∃ x : In2, v = .agg #[.int .i64 x.1, .int .i64 x.2] ∧ IdOk x := by
  obtain ⟨cs, rfl, hsz⟩ := okWide_struct Tryz.underlying30 hv
  obtain ⟨fuel, hf⟩ := h
  obtain ⟨x, hx, hk⟩ := open_in hf
  refine ⟨x, ?_, hk⟩
  obtain ⟨l⟩ := cs
  have ho' : l = encI x := by simpa [Value.cells] using hx
  subst ho'
  rfl
set_option maxRecDepth 100000 in
theorem open_enp {r : Reach} {b0 : Nat} {v : Value} {d : DataW H} {p : List MemPlace} (hv : Value.okWide Tryz.prog w r b0 38 v)
    (h : DataW.Trod enc Tryz.prog w 0 (fun _ => true) true 38 v d p) : ∃ x : En × Value × Option Addr × Nat, v = x.1.val x.2.1 (.slice x.2.2.1 x.1.deps.length x.2.2.2) ∧ EnI w x.1 x.2.1 x.2.2.1 x.2.2.2 := by
  obtain ⟨cs, rfl, hsz⟩ := okWide_struct Tryz.underlying38 hv
  obtain ⟨fuel, hf⟩ := h
  obtain ⟨e, u, A, c, ho, hk⟩ := open_en hf
  refine ⟨⟨e, u, A, c⟩, ?_, hk⟩
  obtain ⟨l⟩ := cs
  have ho' : l = e.cs u (.slice A e.deps.length c) := by simpa [Value.cells] using ho
  subst ho'
  rfl
end
end Go.Proofs.YtcpgamidimfflaaGreat
namespace Go.Proofs.YtcpgamidimfflaaGreat
open Go.RowKit Go.My Go.Maps
set_option linter.unusedSimpArgs false
set_option linter.unusedVariables false
attribute [local go_sem ↓] Go.wp_at_zero Go.wp_at_succ
set_option maxRecDepth 100000 in
set_option maxHeartbeats 2000000 in
theorem equalIn_any2 (F G : Nat → Prop) (A B : Option Addr) (c d : Nat) (L R : List In2) (w : World) (hA : Rd w F 2 A L.length (ins2 L)) (hB : Rd w G 2 B R.length (ins2 R)) (hl : L.length ≤ 9223372036854775807) :
    Calls Tryz.prog 77 #[.slice A L.length c, .slice B R.length d] w fun e w' => e = .returned (.bool (decide (L = R))) ∧ Fr No w w' := by
  have HA := Lib.hid hA
  have HB := Lib.hid hB
  have HM : Hid (L.length ≤ 9223372036854775807) := hl
  clear hA hB
  by_cases hlen : L.length = R.length
  · have hz : ((L.length : Int) != (R.length : Int)) = false := by rw [bne_eq_false_iff_eq]; omega
    have HL := Lib.hid hlen
    clear hlen
    go_enter Tryz.func77, Tryz.ntmps77
    go_wp2
    go_loopw [13] (fun iv wr => EqRelI w L R iv wr) (fun iv _ => L.length - (intOf iv).toNat)
    case atStart => exact ⟨0, 0, Nat.zero_le _, rfl, rfl, rfl⟩
    case round =>
      obtain ⟨k, j, hk, rfl, heq, rfl⟩ := hrel
      have HE := Lib.hid heq
      clear heq
      by_cases hlt : k < L.length
      · have hlt2 : k < R.length := by have := HL.out; omega
        obtain ⟨ad, rfl, _, p0, p1⟩ := in2_at HA.out k hlt
        obtain ⟨bd, rfl, _, q0, q1⟩ := in2_at HB.out k hlt2
        have e1 : L.take (k + 1) = L.take k ++ [L[k]] := List.take_succ_eq_append_getElem hlt
        have e2 : R.take (k + 1) = R.take k ++ [R[k]] := List.take_succ_eq_append_getElem hlt2
        have hk62 : (k : Int) < 9223372036854775807 := by have := HM.out; omega
        by_cases hxy : L[k] = R[k]
        · have E : Hid (L.take (k + 1) = R.take (k + 1)) := by show _ = _; rw [e1, e2, HE.out, hxy]
          rw [← hxy] at q0 q1
          clear e1 e2 hxy
          generalize L[k].1 = n1 at *
          generalize L[k].2 = v1 at *
          go_wp2
          go_quiet (fail)
          go_wp2
          go_roundw
          case rel => exact ⟨k + 1, _, by omega, by go_num, E.out, rfl⟩
          case measure => simp [intOf]; omega
        · have E : Hid (L ≠ R) := by
            intro h
            subst h
            exact hxy rfl
          have hne := fun W => neq_in L[k] R[k] W hxy
          clear e1 e2 hxy
          generalize L[k].1 = n1 at *
          generalize L[k].2 = v1 at *
          generalize R[k].1 = m1 at *
          generalize R[k].2 = u1 at *
          go_wp2
          go_quiet (fail)
          go_wp2
          go_ret
          exact ⟨by rw [decide_eq_false E.out]; rfl, ((Fr.refl _ _).drewN _).drewN _⟩
      · have hkl : k = L.length := by omega
        subst hkl
        have h1 := HE.out
        rw [List.take_length, HL.out, List.take_length] at h1
        have H1 := Lib.hid h1
        clear h1
        go_wp2
        go_ret
        exact ⟨by rw [decide_eq_true H1.out]; rfl, (Fr.refl _ _).drewN _⟩
  · have hz : ((L.length : Int) != (R.length : Int)) = true := by rw [bne_iff_ne]; omega
    have HL := Lib.hid hlen
    clear hlen
    go_enter Tryz.func77, Tryz.ntmps77
    go_wp2
    go_ret
    exact ⟨by rw [decide_eq_false (fun h => HL.out (by rw [h]))]; rfl, Fr.refl _ _⟩
set_option maxRecDepth 100000 in
set_option maxHeartbeats 2000000 in
theorem same14_any2 (F G : Nat → Prop) (a b : En) (v u : Value) (A B : Option Addr) (c d : Nat) (w : World) (ha : EnS w F a v A c) (hb : EnS w G b u B d) (hl : a.deps.length ≤ 9223372036854775807) :
    Calls Tryz.prog 37 #[a.val v (.slice A a.deps.length c), b.val u (.slice B b.deps.length d)] w fun x w' => x = .returned (.bool (sameE a b)) ∧ Fr No w w' := by
  obtain ⟨res, hres⟩ : ∃ res, res = sameE a b := ⟨_, rfl⟩
  rw [← hres]
  unfold sameE at hres
  have HRES := Lib.hid hres
  have HSA : Hid (∀ W, Fr No w W → Calls Tryz.prog 43 #[.agg #[.int .i64 a.o.cl, .int .i64 a.o.sq, .int .i64 a.o.kd, .string a.o.acct, .string a.o.peer, .int .i64 a.o.sum, v, .int .i64 a.o.per, .int .i64 a.o.hold, .string a.o.note], .agg #[.int .i64 b.o.cl, .int .i64 b.o.sq, .int .i64 b.o.kd, .string b.o.acct, .string b.o.peer, .int .i64 b.o.sum, u, .int .i64 b.o.per, .int .i64 b.o.hold, .string b.o.note]] W fun x w' => x = .returned (.bool (eqO a.o b.o)) ∧ Fr No W w') := Lib.hid (fun W hW => osame_any F G a.o b.o v u W (ha.no hW).legs (hb.no hW).legs)
  have HEQ : Hid (∀ W, Fr No w W → Calls Tryz.prog 77 #[.slice A a.deps.length c, .slice B b.deps.length d] W fun x w' => x = .returned (.bool (decide (a.deps = b.deps))) ∧ Fr No W w') := Lib.hid (fun W hW => equalIn_any2 F G A B c d a.deps b.deps W (ha.no hW).deps (hb.no hW).deps hl)
  unfold En.val
  clear ha hb hres
  generalize eqO a.o b.o = be at *
  generalize decide (a.deps = b.deps) = bd at *
  generalize a.deps.length = n at *
  generalize b.deps.length = m at *
  generalize a.none = an at *
  generalize b.none = bn at *
  generalize a.o.cl = x0 at *
  generalize a.o.sq = x1 at *
  generalize a.o.kd = x2 at *
  generalize a.o.acct = x3 at *
  generalize a.o.peer = x4 at *
  generalize a.o.sum = x5 at *
  generalize a.o.per = x7 at *
  generalize a.o.hold = x8 at *
  generalize a.o.note = x9 at *
  generalize b.o.cl = y0 at *
  generalize b.o.sq = y1 at *
  generalize b.o.kd = y2 at *
  generalize b.o.acct = y3 at *
  generalize b.o.peer = y4 at *
  generalize b.o.sum = y5 at *
  generalize b.o.per = y7 at *
  generalize b.o.hold = y8 at *
  generalize b.o.note = y9 at *
  by_cases hn : an = bn
  · subst hn
    have hn2 : (an == an) = true := by simp
    rw [hn2] at HRES
    cases be with
    | false =>
      go_enter Tryz.func37, Tryz.ntmps37
      go_wp2_with (go_at_call 43; (with_reducible refine (HSA.out _ (((Fr.refl No w).alloc _).alloc _)).mono ?_); rintro _ u1 ⟨rfl, f1⟩; have HF1 := Lib.hid ((((Fr.refl No w).alloc _).alloc _).trans f1); clear f1)
      go_ret
      exact ⟨by rw [HRES.out]; rfl, HF1.out⟩
    | true =>
      go_enter Tryz.func37, Tryz.ntmps37
      go_wp2_with (first
        | (go_at_call 43; (with_reducible refine (HSA.out _ (((Fr.refl No w).alloc _).alloc _)).mono ?_); rintro _ u1 ⟨rfl, f1⟩; have HF1 := Lib.hid ((((Fr.refl No w).alloc _).alloc _).trans f1); have hA1 := ((Blk.new w 38 #[.int .i64 x0, .int .i64 x1, .int .i64 x2, .string x3, .string x4, .int .i64 x5, v, .int .i64 x7, .int .i64 x8, .string x9, .bool an, .slice A n c]).alloc (.cells #[.int .i64 y0, .int .i64 y1, .int .i64 y2, .string y3, .string y4, .int .i64 y5, u, .int .i64 y7, .int .i64 y8, .string y9, .bool an, .slice B m d] 38)).fr f1 (fun h => h); have hB0 := Blk.new (w.alloc (.cells #[.int .i64 x0, .int .i64 x1, .int .i64 x2, .string x3, .string x4, .int .i64 x5, v, .int .i64 x7, .int .i64 x8, .string x9, .bool an, .slice A n c] 38)) 38 #[.int .i64 y0, .int .i64 y1, .int .i64 y2, .string y3, .string y4, .int .i64 y5, u, .int .i64 y7, .int .i64 y8, .string y9, .bool an, .slice B m d]; rw [World.size_alloc] at hB0; have hB1 := hB0.fr f1 (fun h => h); have z0 := hA1.cell 11; have z1 := hB1.cell 11; simp only [List.getElem?_toArray, List.getElem?_cons_zero, List.getElem?_cons_succ] at z0 z1; clear f1 hA1 hB0 hB1)
        | (go_at_call 77; (with_reducible refine (HEQ.out _ HF1.out).mono ?_); rintro _ u2 ⟨rfl, f2⟩; have HF2 := Lib.hid (HF1.out.trans f2); clear f2))
      go_ret
      exact ⟨by rw [HRES.out]; first | rfl | simp, HF2.out⟩
  · have hn2 : (an == bn) = false := by simpa using hn
    rw [hn2] at HRES
    go_enter Tryz.func37, Tryz.ntmps37
    go_wp2
    go_ret
    exact ⟨by rw [HRES.out]; rfl, ((Fr.refl _ _).alloc _).alloc _⟩
end Go.Proofs.YtcpgamidimfflaaGreat
