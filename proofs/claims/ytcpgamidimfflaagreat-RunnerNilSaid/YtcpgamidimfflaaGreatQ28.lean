/- The knots in order: those that may come next lie in a heap. -/
import Derived.Test.YtcpgamidimfflaaGreatQ26
import Derived.Test.YtcpgamidimfflaaGreatQ05
import Derived.Test.YtcpgamidimfflaaGreatQ27
namespace Go.Proofs.YtcpgamidimfflaaGreat
open Go.RowKit Go.My Go.My.Hp Go.My.Kn Go.Maps
set_option linter.unusedSimpArgs false
set_option linter.unusedVariables false
attribute [local go_sem ↓] Go.wp_at_zero Go.wp_at_succ
def il (H : List Nat) : List Int := H.map fun (x : Nat) => (x : Int)
theorem il_len (H : List Nat) : (il H).length = H.length := List.length_map _
theorem il_of {L : List Int} {H : List Nat} (h : L.Perm (il H)) : ∃ H' : List Nat, L = il H' ∧ H'.Perm H := by
  have h1 : ∀ x ∈ L, ((x.toNat : Nat) : Int) = x := fun x hx => by
    obtain ⟨y, _, rfl⟩ := List.mem_map.1 (h.mem_iff.1 hx)
    simp
  refine ⟨L.map Int.toNat, ?_, ?_⟩
  · unfold il
    rw [List.map_map]
    conv => lhs; rw [← List.map_id L]
    exact List.map_congr_left fun x hx => (h1 x hx).symm
  · have := h.map Int.toNat
    unfold il at this
    rw [List.map_map] at this
    have e : H.map (Int.toNat ∘ fun (x : Nat) => (x : Int)) = H := by
      conv => rhs; rw [← List.map_id H]
      exact List.map_congr_left fun x _ => by simp
    rwa [e] at this
structure InM (B : Nat → Prop) (w0 : World) (hp wb n : Nat) (kv : Nat → Value) (lA : Option Addr) (lc : Nat) (As : List Nat) (W : Nat → Nat) (H : List Nat) (hA : Option Addr) (hc : Nat) (w : World) : Prop where
  heap : HpS B w hp hA hc (il H)
  hh : Hp (at_ (il H)) (il H).length
  waits : Own w 3 1 (.slice (some ⟨wb, 0, none⟩) n n) n (ns W n)
  small : ∀ b, W b ≤ 1000000
  row : Own w 66 1 (.slice lA As.length lc) As.length (As.map kv)
  new : ∀ k, (Value.slice lA As.length lc).ownBlock = some k → B k
  fr : Fr (fun k => B k ∨ k = wb) w0 w
section
variable {B : Nat → Prop} {w0 w w' : World} {hp wb n : Nat} {kv : Nat → Value} {lA : Option Addr} {lc : Nat} {As : List Nat} {W : Nat → Nat} {H : List Nat} {hA : Option Addr} {hc : Nat}
theorem InM.step {H' : List Nat} {hA' : Option Addr} {hc' : Nat} (h : InM B w0 hp wb n kv lA lc As W H hA hc w) (hwb : ¬ B wb) (hf : Fr (HpC B w) w w') (hs : HpS B w' hp hA' hc' (il H')) (hh : Hp (at_ (il H')) (il H').length) : InM B w0 hp wb n kv lA lc As W H' hA' hc' w' where
  heap := hs
  hh := hh
  waits := h.waits.fr hf fun k hk hS => by
    injection hk with hk
    have hk : wb = k := hk
    subst hk
    exact hwb hS.1
  small := h.small
  row := h.row.fr hf fun k hk hS => by
    obtain ⟨c, hc⟩ := h.row.blk k hk
    exact hS.2 c hc
  new := h.new
  fr := h.fr.trans' hf fun k hk _ => .inl hk.1
theorem InM.lower (h : InM B w0 hp wb n kv lA lc As W H hA hc w) (hwb : ¬ B wb) (b : Nat) (hb : b < n) :
    InM B w0 hp wb n kv lA lc As (fun x => if x = b then W b - 1 else W x) H hA hc (w.setCell ⟨wb, b, none⟩ (.int .i64 ((W b - 1 : Nat) : Int))) := by
  have hF : Fr (At1 wb) w (w.setCell ⟨wb, b, none⟩ (.int .i64 ((W b - 1 : Nat) : Int))) := fr_set _ _ _ _
  have o := (h.waits.store b hb (.int .i64 ((W b - 1 : Nat) : Int))).1
  rw [ns_set _ _ _ _ hb] at o
  exact {
    heap := h.heap.fr hF (fun e => by have e : hp = wb := e; exact hwb (e ▸ h.heap.lo)) fun k hk e => by have e : k = wb := e; exact hwb (e ▸ h.heap.new k hk)
    hh := h.hh
    waits := o
    small := fun x => by
      have := h.small b
      have := h.small x
      show (if x = b then W b - 1 else W x) ≤ _
      split <;> omega
    row := h.row.fr hF fun k hk e => by have e : k = wb := e; exact hwb (e ▸ h.new k hk)
    new := h.new
    fr := h.fr.trans' hF fun k hk _ => .inr hk }
theorem InM.push {w3 : World} {lA3 : Option Addr} {lc3 a : Nat} {ob : Obj} (h : InM B w0 hp wb n kv lA lc As W H hA hc w) (hwb : ¬ B wb) (ho : Own w3 66 1 (.slice lA3 (As.length + 1) lc3) (As.length + 1) (As.map kv ++ [kv a])) (hf : Fr (AtO (Value.slice lA As.length lc).ownBlock) (w.alloc ob) w3)
    (hn : (Value.slice lA3 (As.length + 1) lc3).ownBlock = (Value.slice lA As.length lc).ownBlock ∨ (Value.slice lA3 (As.length + 1) lc3).ownBlock = some (w.alloc ob).heap.size) : InM B w0 hp wb n kv lA3 lc3 (As ++ [a]) W H hA hc w3 := by
  have hl : (As ++ [a]).length = As.length + 1 := by simp
  have hsz := h.heap.blk.lt
  have hlo := h.heap.lo
  have hF : Fr (AtO (Value.slice lA As.length lc).ownBlock) w w3 := ((Fr.refl _ w).alloc ob).trans' hf fun k hk _ => hk
  exact {
    heap := h.heap.fr hF (fun e => h.row.ne_ h.heap.blk (by decide) e) fun k hk e => by
      obtain ⟨c, hc⟩ := h.heap.row.blk k hk
      exact h.row.ne_ hc (by decide) e
    hh := h.hh
    waits := h.waits.fr hF fun k hk e => by
      obtain ⟨c, hc⟩ := h.waits.blk k hk
      exact h.row.ne_ hc (by decide) e
    small := h.small
    row := by rw [hl, List.map_append]; exact ho
    new := fun k hk => by
      rw [hl] at hk
      rcases hn with e | e
      · exact h.new k (e ▸ hk)
      · rw [e] at hk; injection hk with hk; rw [World.size_alloc] at hk; exact h.heap.up k (by omega)
    fr := h.fr.trans' hF fun k hk _ => .inl (h.new k hk) }
end
def SeqTo (n : Nat) (V : Nat → Nat → Bool) (As : List Nat) : Prop := ∀ L, KnSeq n V As.reverse L → KnSeq n V [] (As.map (cls n V) ++ L)
theorem SeqTo.nil (n : Nat) (V : Nat → Nat → Bool) : SeqTo n V [] := fun L h => h
theorem SeqTo.more {n : Nat} {V : Nat → Nat → Bool} {As : List Nat} (h : SeqTo n V As) {a : Nat} (hf : Free n V As.reverse a) (hl : ∀ j, j < a → ¬ Free n V As.reverse j) : SeqTo n V (As ++ [a]) := fun L hL => by
  rw [List.reverse_append] at hL
  have := h _ (KnSeq.cons a hf hl hL)
  rw [List.map_append, List.append_assoc]
  exact this
def InO (B : Nat → Prop) (w0 : World) (hp wb n : Nat) (V : Nat → Nat → Bool) (Bt : Nat → List Nat) (kv : Nat → Value) (iv : Value) (w : World) : Prop :=
  ∃ (As : List Nat) (W : Nat → Nat) (H : List Nat) (lA : Option Addr) (lc : Nat) (hA : Option Addr) (hc : Nat), iv = .slice lA As.length lc ∧ InM B w0 hp wb n kv lA lc As W H hA hc w ∧ KI n V Bt As.reverse W H (fun _ => 0) ∧ As.Nodup ∧ (∀ a ∈ As, a < n ∧ nm n V a = a) ∧ SeqTo n V As
def InI (B : Nat → Prop) (w0 : World) (hp wb n : Nat) (V : Nat → Nat → Bool) (Bt : Nat → List Nat) (kv : Nat → Value) (lA : Option Addr) (lc : Nat) (As : List Nat) (us : List Nat) (iv : Value) (w : World) : Prop :=
  ∃ (j : Nat) (W : Nat → Nat) (H : List Nat) (hA : Option Addr) (hc : Nat), iv = .int .i64 (j : Int) ∧ j ≤ us.length ∧ InM B w0 hp wb n kv lA lc As W H hA hc w ∧ KI n V Bt As.reverse W H (fun b => (us.drop j).count b)
def InRet (B : Nat → Prop) (w0 : World) (wb n : Nat) (V : Nat → Nat → Bool) (kv : Nat → Value) (e : Ending) (w : World) : Prop :=
  ∃ (As : List Nat) (lA : Option Addr) (lc : Nat), e = .returned (.slice lA As.length lc) ∧ Own w 66 1 (.slice lA As.length lc) As.length (As.map kv) ∧ (∀ k, (Value.slice lA As.length lc).ownBlock = some k → B k) ∧ KnSeq n V [] (As.map (cls n V)) ∧ (∀ a ∈ As, a < n ∧ nm n V a = a) ∧ Fr (fun k => B k ∨ k = wb) w0 w
theorem pop_nat {B : Nat → Prop} {w : World} {p : Nat} {A : Option Addr} {c : Nat} {h1 : Nat} {H2 : List Nat} (h : HpS B w p A c (il (h1 :: H2))) (hh : Hp (at_ (il (h1 :: H2))) (il (h1 :: H2)).length) (hn : (il (h1 :: H2)).length ≤ 900000) :
    Calls Tryz.prog 209 #[.iface 222 (.pointer (some ⟨p, 0, none⟩))] w fun e w' => ∃ (a : Nat) (H3 : List Nat), e = .returned (.iface 3 (.int .i64 (a : Int))) ∧ (h1 :: H2).Perm (a :: H3) ∧ (∀ b ∈ h1 :: H2, a ≤ b) ∧ Hp (at_ (il H3)) (il H3).length ∧ HpS B w' p A c (il H3) ∧ Fr (HpC B w) w w' := by
  refine (hPop_any (n := H2.length) h hh (by rw [il_len]; rfl) hn).mono ?_
  rintro e w' ⟨x, R, rfl, -, r2, r3, r4, r5, r6⟩
  obtain ⟨H', e1, e2⟩ := il_of r2
  cases H' with
  | nil => cases e1
  | cons a H3 =>
    have e1' : x :: R = (a : Int) :: il H3 := e1
    injection e1' with ex eR
    subst ex eR
    refine ⟨a, H3, rfl, e2.symm, fun b hb => ?_, r4, r5, r6⟩
    have := r3 (b : Int) (List.mem_map.2 ⟨b, hb, rfl⟩)
    omega
theorem push_nat {B : Nat → Prop} {w : World} {p : Nat} {A : Option Addr} {c : Nat} {H : List Nat} (h : HpS B w p A c (il H)) (b : Nat) (hh : Hp (at_ (il H)) (il H).length) (hn : (il H).length ≤ 900000) :
    Calls Tryz.prog 161 #[.iface 222 (.pointer (some ⟨p, 0, none⟩)), .iface 3 (.int .i64 (b : Int))] w fun e w' => e = .returned (.tuple #[]) ∧ ∃ (A' : Option Addr) (c' : Nat) (H' : List Nat), H'.Perm (b :: H) ∧ Hp (at_ (il H')) (il H').length ∧ HpS B w' p A' c' (il H') ∧ Fr (HpC B w) w w' := by
  refine (hPush_any h (b : Int) hh hn).mono ?_
  rintro e w' ⟨rfl, A', c', M, m1, m2, m3, m4⟩
  obtain ⟨H', rfl, e2⟩ := il_of (H := b :: H) m1
  exact ⟨rfl, A', c', H', e2, m2, m3, m4⟩
theorem meas_lt {j j1 m : Nat} (h : j < m) (hw : j1 = j + 1) : m - j1 < m - j := by omega
theorem drop_count {us : List Nat} {j : Nat} (h : j < us.length) (x : Nat) : (us.drop j).count x = (us.drop (j + 1)).count x + if x = us[j] then 1 else 0 := by
  rw [List.drop_eq_getElem_cons h, List.count_cons]
  by_cases e : x = us[j]
  · rw [if_pos e, if_pos (by rw [e]; simp)]
  · rw [if_neg e, if_neg (by simpa using fun h => e h.symm)]
set_option maxRecDepth 100000 in
set_option maxHeartbeats 8000000 in
theorem inOrder_any {R V : Nat → Nat → Bool} {Bt : Nat → List Nat} (B : Nat → Prop) (w : World) (hp wb n : Nat) (kv : Nat → Value) (Fk : Nat → Prop) (kA uA : Option Addr) (kc uc : Nat) (U : List (List Int)) (us : Nat → List Nat) (W0 : Nat → Nat) (H0 : List Nat) (hA : Option Addr) (hc : Nat)
    (hk : Rd w Fk 1 kA n ((List.range n).map kv)) (hu : RdG w Fk uA U) (hF : ∀ k, Fk k → ¬ B k ∧ k ≠ wb) (hUl : U.length = n) (hus : ∀ a, a < n → gat U a = il (us a)) (hul : ∀ a, (us a).length ≤ 100000000)
    (hcnt : ∀ a b, (us a).count b = (Bt b).count a) (hm : InM B w hp wb n kv none 0 [] W0 H0 hA hc w) (hwb : ¬ B wb) (hn : n ≤ 1000) (hki : KI n V Bt [] W0 H0 (fun _ => 0)) (hR : ReachR n R V) (hB : BtOk n R V Bt) (hkv : ∀ a, a < n → ∃ A m c, kv a = .slice A m c) :
    Calls Tryz.prog 162 #[.slice kA n kc, .slice (some ⟨wb, 0, none⟩) n n, .slice uA n uc, .pointer (some ⟨hp, 0, none⟩)] w (InRet B w wb n V kv) := by
  have HK := Lib.hid hk
  have HU := Lib.hid hu
  have HFk := Lib.hid hF
  have HUL := Lib.hid hUl
  have HUS := Lib.hid hus
  have HUB := Lib.hid hul
  have HCN := Lib.hid hcnt
  have HM0 := Lib.hid hm
  have HKI := Lib.hid hki
  have HR := Lib.hid hR
  have HB := Lib.hid hB
  have HWB := Lib.hid hwb
  have HKV := Lib.hid hkv
  clear hk hu hF hUl hus hul hcnt hm hki hR hB hwb hkv
  go_enter Tryz.func162, Tryz.ntmps162
  go_wp2
  go_loopw [9] (fun iv wr => InO B w hp wb n V Bt kv iv wr) (fun iv _ => n - slen iv)
  case atStart => exact ⟨[], W0, H0, none, 0, hA, hc, rfl, HM0.out, HKI.out, List.nodup_nil, fun a h => (by cases h), SeqTo.nil n V⟩
  case round =>
    obtain ⟨As, W1, H1, lA, lc, hA1, hc1, rfl, hm, hki, hnd, hlt, hsq⟩ := hrel
    have HM := Lib.hid hm
    have HKI1 := Lib.hid hki
    have HND := Lib.hid hnd
    have HLT := Lib.hid hlt
    have HSQ := Lib.hid hsq
    have c1 := hm.heap.cell
    rw [il_len] at c1
    clear hm hki hnd hlt hsq
    cases H1 with
    | nil =>
      go_wp2_with (go_at_call 208; (with_reducible refine (hlen_any _ _ _ _).mono ?_); rintro _ w3 ⟨rfl, hw3⟩; obtain rfl : wr = w3 := hw3.symm)
      go_ret
      have h1 := HSQ.out [] (KnSeq.nil fun i => KI.none HR.out HB.out HKI1.out i)
      rw [List.append_nil] at h1
      exact ⟨As, lA, lc, rfl, HM.out.row, HM.out.new, h1, HLT.out, HM.out.fr⟩
    | cons h1 H2 =>
      have hh1 : h1 < n := ((HKI1.out.heap h1).1 List.mem_cons_self).1
      obtain ⟨adk, uk, rfl, _, _, _⟩ := HK.out.at_ (k := h1) hh1
      obtain ⟨adu, _, _, rfl, _⟩ := HU.out.at_ h1 (by rw [HUL.out]; exact hh1)
      have hHn : (h1 :: H2).length ≤ 900000 := by
        have := nodup_leN HKI1.out.once (n := n) fun x hx => ((HKI1.out.heap x).1 hx).1
        omega
      have HPO := Lib.hid (pop_nat HM.out.heap HM.out.hh (by rw [il_len]; exact hHn))
      have hno : ∀ k, Fk k → ¬ (B k ∨ k = wb) := fun k hk hS => by
        rcases hS with e | e
        · exact (HFk.out k hk).1 e
        · exact (HFk.out k hk).2 e
      have HX : Hid (∀ (w5 : World) (a : Nat), a < n → Fr (fun k => B k ∨ k = wb) w w5 → w5.cell? (adk.add a) = some (kv a)) := Lib.hid (fun w5 a ha hf => by
        obtain ⟨ad, u, e1, e2, e3, e4⟩ := (HK.out.fr (by omega) hf fun k hk _ => hno k hk).at_ (k := a) ha
        injection e1 with e1
        subst e1
        rw [List.getElem?_map, List.getElem?_range ha] at e3
        injection e3 with e3
        subst e3
        exact e4)
      have HY : Hid (∀ a : Nat, a < n → ∃ (A' : Option Addr) (c' : Nat), (us a).length ≤ c' ∧ c' ≤ maxLen ∧ ∀ w5 : World, Fr (fun k => B k ∨ k = wb) w w5 → w5.cell? (adu.add a) = some (.slice A' (us a).length c') ∧ Rd w5 Fk 1 A' (us a).length (nl (us a))) := Lib.hid (fun a ha => by
        obtain ⟨vs, hr, hE⟩ := HU.out
        have haU : a < U.length := by rw [HUL.out]; exact ha
        obtain ⟨A', c', h1, h2, h3, h4⟩ := hE a _ (List.getElem?_eq_getElem haU)
        have hg : U[a] = il (us a) := by rw [← gat_at, HUS.out a ha]
        rw [hg, il_len] at h1 h2 h3
        refine ⟨A', c', h3, h4, fun w5 hf => ⟨?_, ?_⟩⟩
        · obtain ⟨ad, u, e1, e2, e3, e4⟩ := (hr.fr (by omega) hf fun k hk _ => hno k hk).at_ (k := a) haU
          injection e1 with e1
          subst e1
          rw [h1] at e3
          injection e3 with e3
          subst e3
          exact e4
        · rw [nl_is]; exact h2.fr (by omega) hf fun k hk _ => hno k hk)
      clear hno
      have hXl : Hid (As.length + 1 ≤ maxLen ∧ (As.length + 1) * 24 ≤ 140737488355328) := by
        have := nodup_leN HND.out (n := n) fun x hx => (HLT.out x hx).1
        refine ⟨?_, ?_⟩ <;> (try simp only [maxLen]) <;> omega
      go_wp2_with (first
        | (go_at_call 208; (with_reducible refine (hlen_any _ _ _ _).mono ?_); rintro _ w3 ⟨rfl, hw3⟩; obtain rfl : wr = w3 := hw3.symm)
        | (go_at_call 209; (with_reducible refine HPO.out.mono ?_); rintro _ w5 ⟨a, H3, rfl, p1, p2, p3, p4, p5⟩; have hM5 := HM.out.step HWB.out p5 p4 p3; have han : a < n := ((HKI1.out.heap a).1 (p1.mem_iff.2 List.mem_cons_self)).1; have hanI : (a : Int) < (n : Int) := (by omega); have hx5 := HX.out w5 a han hM5.fr; obtain ⟨A5, m5, c5, hk5⟩ := HKV.out a han; have HK5 := Lib.hid hk5; rw [hk5] at hx5; have hta := hta_any (a : Int); have HP1 := Lib.hid p1; have HP2 := Lib.hid p2; have HM5 := Lib.hid hM5; clear p1 p2 p3 p4 p5 hM5 hk5)
        | (at_builtin; refine wpList_app _ rfl (.tmp 22) (.tmp 27) 107 107 rfl elG (HM5.out.row.alloc _) rfl (Src.of_new (cs := #[.slice A5 m5 c5]) (t := 66) w5.heap.size (heap_alloc_new w5 _) Tryz.underlying107 rfl (by simp [Value.oneCell'])) rfl hXl.out.1 hXl.out.2 ?_; intro v7 w7 hown7 hfr7 hnew7; obtain ⟨A7, c7, rfl, _, _⟩ := hown7.form; have hM7 := HM5.out.push (a := a) HWB.out (by rw [HK5.out]; exact hown7) hfr7 hnew7; obtain ⟨Au, cu, -, -, huall⟩ := HY.out a han; have hu1 := (huall w7 hM7.fr).1; have HM7 := Lib.hid hM7; have HUA := Lib.hid huall; clear hown7 hfr7 hnew7 hM7 huall))
      generalize wr = wo at *
      go_loopw [34] (fun jv wr => InI B w hp wb n V Bt kv A7 c7 (As ++ [a]) (us a) jv wr) (fun jv _ => (us a).length - (intOf jv).toNat)
      case atStart =>
        refine ⟨0, W1, H3, hA1, hc1, rfl, Nat.zero_le _, HM7.out, ?_⟩
        have e : (fun b => ((us a).drop 0).count b) = fun b => (Bt b).count a := funext fun b => by rw [List.drop_zero, HCN.out]
        have h1 := HKI1.out.pop HR.out HB.out HP1.out
        rw [e, List.reverse_append]
        exact h1
      case round =>
        obtain ⟨j, W2, H4, hA2, hc2, rfl, hj, hm, hki⟩ := hrel
        have HM := Lib.hid hm
        have HKI2 := Lib.hid hki
        by_cases hjl : j < (us a).length
        · obtain ⟨b, hb⟩ : ∃ b, b = (us a)[j] := ⟨_, rfl⟩
          have HBJ : Hid (∃ h : j < (us a).length, b = (us a)[j]) := Lib.hid ⟨hjl, hb⟩
          obtain ⟨ad, u, rfl, _, e3, e4⟩ := (HUA.out wr hm.fr).2.at_ (k := j) hjl
          rw [nl_at _ _ hjl, ← hb] at e3
          injection e3 with e3
          subst e3
          have hjlI : (j : Int) < ((us a).length : Int) := by omega
          obtain ⟨j1, hj1⟩ : ∃ j1, j1 = j + 1 := ⟨_, rfl⟩
          have hwj : wrap64 ((j : Int) + 1) = (j1 : Int) := by
            have h1 : (us a).length ≤ 100000000 := HUB.out a
            unfold wrap64; omega
          have HJ1 := Lib.hid hj1
          have haD : a ∉ As.reverse := ((HKI1.out.heap a).1 (HP1.out.mem_iff.2 List.mem_cons_self)).2.2.1
          have hna : nm n V a = a := ((HKI1.out.heap a).1 (HP1.out.mem_iff.2 List.mem_cons_self)).2.1
          have hab : a ∈ Bt b := by
            have h1 : 0 < (us a).count b := List.count_pos_iff.2 (by rw [hb]; exact List.getElem_mem hjl)
            rw [HCN.out] at h1
            exact List.count_pos_iff.1 h1
          obtain ⟨hbn, hnb, hbD⟩ := KI.not_done (W := W1) (H := h1 :: H2) (m := fun _ => 0) HR.out HB.out HKI1.out.shut haD han hna hab
          have hmb : 0 < ((us a).drop j).count b := by rw [drop_count hjl, if_pos hb]; omega
          obtain ⟨hWb, htell⟩ := HKI2.out.tell hbn hnb (by rw [List.reverse_append]; exact hbD) hmb
          have htell2 : KI n V Bt (As ++ [a]).reverse (fun x => if x = b then W2 b - 1 else W2 x) (if W2 b - 1 = 0 then b :: H4 else H4) (fun x => ((us a).drop (j + 1)).count x) := by
            have e : (fun x => if x = b then ((us a).drop j).count b - 1 else ((us a).drop j).count x) = fun x => ((us a).drop (j + 1)).count x := funext fun x => by
              by_cases e : x = b
              · rw [if_pos e, e, drop_count hjl, if_pos hb]; omega
              · rw [if_neg e, drop_count hjl x, if_neg (by rw [← hb]; exact e)]; rfl
            rw [← e]
            exact htell
          have HTL := Lib.hid htell2
          have hsm := hm.small b
          obtain ⟨ad3, us3, he3, _, hu3', hsc⟩ := hm.waits.rd.at_ (k := b) hbn
          injection he3 with he3
          subst he3
          rw [ns_at _ _ _ hbn] at hu3'
          injection hu3' with hu3'
          subst hu3'
          rw [add_zero] at hsc
          have hsz := (hm.waits.store b hbn (.int .i64 0)).2.2
          obtain ⟨v, hv⟩ : ∃ v, v = W2 b - 1 := ⟨_, rfl⟩
          have hwv : wrap64 ((W2 b : Int) - 1) = (v : Int) := by unfold wrap64; omega
          have HM2 := Lib.hid (hm.lower HWB.out b hbn)
          rw [← hv] at HM2
          have HV := Lib.hid hv
          have hbnI : (b : Int) < (n : Int) := by omega
          have hH4 : (il H4).length ≤ 900000 := by
            rw [il_len]
            have := nodup_leN HKI2.out.once (n := n) fun x hx => ((HKI2.out.heap x).1 hx).1
            omega
          have HPU := Lib.hid (push_nat HM2.out.heap b HM2.out.hh hH4)
          clear hj1 hv hm hki htell htell2 hb hab haD hna hbD hWb hH4 hmb hnb hsm
          by_cases h0 : v = 0
          · have hvI : ((v : Int) == 0) = true := by rw [h0]; rfl
            have HV0 := Lib.hid h0
            clear h0
            go_wp2_with (go_at_call 161; (with_reducible refine HPU.out.mono ?_); rintro _ w9 ⟨rfl, A9, c9, H9, p1, p2, p3, p4⟩; have HP91 := Lib.hid p1; have HP92 := Lib.hid p2; have HP93 := Lib.hid p3; have HP94 := Lib.hid p4; clear p1 p2 p3 p4)
            go_roundw
            case measure =>
              show (us a).length - (intOf (Value.int .i64 (wrap64 ((j : Int) + 1)))).toNat < (us a).length - (intOf (Value.int .i64 (j : Int))).toNat
              rw [hwj]
              exact meas_lt hjl HJ1.out
            case rel =>
              refine ⟨j1, _, H9, A9, c9, by rw [hwj], by rw [HJ1.out]; exact hjl, HM2.out.step HWB.out HP94.out HP93.out HP92.out, ?_⟩
              have h1 := HTL.out
              rw [← HV.out, ← HJ1.out] at h1
              rw [if_pos HV0.out] at h1
              exact h1.perm HP91.out.symm
          · have hvI : ((v : Int) == 0) = false := by rw [beq_eq_false_iff_ne]; omega
            go_wp2
            go_roundw
            case measure =>
              show (us a).length - (intOf (Value.int .i64 (wrap64 ((j : Int) + 1)))).toNat < (us a).length - (intOf (Value.int .i64 (j : Int))).toNat
              rw [hwj]
              exact meas_lt hjl HJ1.out
            case rel =>
              refine ⟨j1, _, H4, hA2, hc2, by rw [hwj], by rw [HJ1.out]; exact hjl, HM2.out, ?_⟩
              have h1 := HTL.out
              rw [← HV.out, ← HJ1.out] at h1
              rw [if_neg h0] at h1
              exact h1
        · have hjlI : ¬ (j : Int) < ((us a).length : Int) := by omega
          have hje : j = (us a).length := by omega
          go_wp2
          go_roundw
          case measure =>
            have h1 := nodup_leN (l := As ++ [a]) (n := n) (List.nodup_append.2 ⟨HND.out, by simp, by
              intro x hx y hy e
              rw [List.mem_singleton] at hy
              subst hy
              subst e
              exact ((HKI1.out.heap x).1 (HP1.out.mem_iff.2 List.mem_cons_self)).2.2.1 (List.mem_reverse.2 hx)⟩) (fun x hx => by
              rcases List.mem_append.1 hx with hx | hx
              · exact (HLT.out x hx).1
              · rw [List.mem_singleton] at hx; rw [hx]; exact han)
            simp only [slen]
            simp only [List.length_append, List.length_singleton] at h1 ⊢
            omega
          case rel =>
            have hfr := HKI1.out.free HR.out HB.out (a := a) (HP1.out.mem_iff.2 List.mem_cons_self)
            refine ⟨As ++ [a], W2, H4, A7, c7, hA2, hc2, ?_, HM.out, HKI2.out.zero (fun b hb => ?_), ?_, ?_, HSQ.out.more hfr.1 (KI.least HR.out HB.out HKI1.out HP2.out)⟩
            · rw [List.length_append]; rfl
            · rw [hje, List.drop_length]; rfl
            · refine List.nodup_append.2 ⟨HND.out, by simp, ?_⟩
              intro x hx y hy e
              rw [List.mem_singleton] at hy
              subst hy
              subst e
              exact ((HKI1.out.heap x).1 (HP1.out.mem_iff.2 List.mem_cons_self)).2.2.1 (List.mem_reverse.2 hx)
            · intro x hx
              rcases List.mem_append.1 hx with hx | hx
              · exact HLT.out x hx
              · rw [List.mem_singleton] at hx; rw [hx]; exact ⟨han, hfr.2⟩
end Go.Proofs.YtcpgamidimfflaaGreat
