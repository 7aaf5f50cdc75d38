/- The document's Knots. -/
import Derived.Test.YtcjofakhefpfdaaKnL3
import Derived.Test.YtcjofakhefpfdaaKnMR
import Derived.Test.YtcjofakhefpfdaaKnK2
import Derived.Deep.QuietTactic
namespace Go.Proofs.Ytcjofakhefpfdaa
open Go.RowKit Go.My Go.My.Kn Go.Maps
set_option linter.unusedSimpArgs false
set_option linter.unusedVariables false
attribute [local go_sem ↓] Go.wp_at_zero Go.wp_at_succ

theorem w1000 {k k1 : Nat} (e : k1 = k + 1) (h : k ≤ 1000) : wrap64 ((k : Int) + 1) = (k1 : Int) := by unfold wrap64; omega
theorem wpred {j : Nat} {y : Int} (e : y = (j : Int) - 1) (h : j ≤ 1000) : wrap64 ((j : Int) - 1) = y := by unfold wrap64; omega

/-- the row of knots so far, in memory: not below B -/
structure RkM (n : Nat) (V : Nat → Nat → Bool) (B : Nat) (As : List Nat) (lA : Option Addr) (lc : Nat) (vs : List Value) (w : World) : Prop where
  row : Own w 26 1 (.slice lA As.length lc) As.length vs
  new : ∀ k, (Value.slice lA As.length lc).ownBlock = some k → B ≤ k
  rows : ∀ (i : Nat) (h : i < As.length), ∃ A' c', vs[i]? = some (.slice A' (cls n V As[i]).length c') ∧ Own w 3 1 (.slice A' (cls n V As[i]).length c') (cls n V As[i]).length (nl (cls n V As[i])) ∧ ∀ k, (Value.slice A' (cls n V As[i]).length c').ownBlock = some k → B ≤ k
section
variable {n : Nat} {V : Nat → Nat → Bool} {B : Nat} {As : List Nat} {lA : Option Addr} {lc : Nat} {vs : List Value} {w w' : World}
theorem RkM.fr {S : Nat → Prop} (h : RkM n V B As lA lc vs w) (hf : Fr S w w') (hS : ∀ k, S k → k < B) : RkM n V B As lA lc vs w' where
  row := h.row.fr hf fun k hk hs => by have := h.new k hk; have := hS k hs; omega
  new := h.new
  rows i hi := by
    obtain ⟨A', c', h1, h2, h3⟩ := h.rows i hi
    exact ⟨A', c', h1, h2.fr hf fun k hk hs => (by have := h3 k hk; have := hS k hs; omega), h3⟩
/-- a knot more -/
theorem RkM.push {w3 : World} {lA3 : Option Addr} {lc3 a : Nat} {ob : Obj} {kA : Option Addr} {kc : Nat} (h : RkM n V B As lA lc vs w) (hk : Own w 3 1 (.slice kA (cls n V a).length kc) (cls n V a).length (nl (cls n V a))) (hkn : ∀ k, (Value.slice kA (cls n V a).length kc).ownBlock = some k → B ≤ k) (hB : B ≤ w.heap.size)
    (ho : Own w3 26 1 (.slice lA3 (As.length + 1) lc3) (As.length + 1) (vs ++ [.slice kA (cls n V a).length kc])) (hf : Fr (AtO (Value.slice lA As.length lc).ownBlock) (w.alloc ob) w3)
    (hn : (Value.slice lA3 (As.length + 1) lc3).ownBlock = (Value.slice lA As.length lc).ownBlock ∨ (Value.slice lA3 (As.length + 1) lc3).ownBlock = some (w.alloc ob).heap.size) :
    RkM n V B (As ++ [a]) lA3 lc3 (vs ++ [.slice kA (cls n V a).length kc]) w3 := by
  have hl : (As ++ [a]).length = As.length + 1 := by simp
  have hv : vs.length = As.length := by have := h.row.1; omega
  have hF : Fr (AtO (Value.slice lA As.length lc).ownBlock) w w3 := ((Fr.refl _ w).alloc ob).trans' hf fun k hk _ => hk
  have hint : ∀ {A' : Option Addr} {m c' : Nat} {xs : List Value}, Own w 3 1 (.slice A' m c') m xs → Own w3 3 1 (.slice A' m c') m xs := fun {A' m c' xs} o => o.fr hF fun k hk hs => by
    obtain ⟨c, hc⟩ := o.blk k hk
    exact h.row.ne_ hc (by decide) hs
  refine ⟨by rw [hl]; exact ho, fun k hk => ?_, fun i hi => ?_⟩
  · rw [hl] at hk
    rcases hn with e | e
    · exact h.new k (e ▸ hk)
    · rw [e] at hk; injection hk with hk; rw [World.size_alloc] at hk; omega
  · by_cases e : i < As.length
    · obtain ⟨A', c', h1, h2, h3⟩ := h.rows i e
      rw [List.getElem_append_left e]
      exact ⟨A', c', by rw [List.getElem?_append_left (by omega)]; exact h1, hint h2, h3⟩
    · obtain rfl : i = As.length := by omega
      rw [List.getElem_concat_length rfl]
      exact ⟨kA, kc, by rw [List.getElem?_append_right (by omega), hv]; simp, hint hk, hkn⟩
/-- what is handed back -/
theorem RkM.rdG (h : RkM n V B As lA lc vs w) : RdG w (fun k => B ≤ k) lA ((As.map (cls n V)).map il) := by
  refine ⟨vs, ?_, fun i L hL => ?_⟩
  · rw [List.length_map, List.length_map]
    exact h.row.rd.more h.new
  · rw [List.getElem?_map, List.getElem?_map] at hL
    by_cases e : i < As.length
    · rw [List.getElem?_eq_getElem e] at hL
      have hL : some (il (cls n V As[i])) = some L := hL
      injection hL with hL
      subst hL
      obtain ⟨A', c', h1, h2, h3⟩ := h.rows i e
      obtain ⟨A2, c2, h4, h5, h6⟩ := h2.form
      injection h4 with h7 h8 h9
      subst h7 h9
      rw [il_len]
      refine ⟨A', c', h1, ?_, h5, h6⟩
      have h10 := h2.rd.more (G := fun k => B ≤ k) h3
      rw [nl_is] at h10
      exact h10
    · rw [List.getElem?_eq_none (by omega)] at hL
      cases hL
end
/-- what the loop without end keeps -/
def RkO (n : Nat) (V : Nat → Nat → Bool) (db : Nat) (w1 : World) (ov : Value) (wr : World) : Prop :=
  ∃ (As : List Nat) (lA : Option Addr) (lc : Nat) (vs : List Value), ov = .slice lA As.length lc ∧ RkM n V (db + 1) As lA lc vs wr ∧ Own wr 4 1 (.slice (some ⟨db, 0, none⟩) n n) n (bl (dnF n V As.reverse) n) ∧ As.Nodup ∧ (∀ a ∈ As, a < n) ∧ SeqTo n V As ∧ Fr No w1 wr
/-- the least that is free from j on -/
def RkN (n : Nat) (V : Nat → Nat → Bool) (dn : Nat → Bool) (wo : World) (vv iv : Value) (wr : World) : Prop :=
  ∃ (j : Nat) (x v : Int), iv = .int .i64 x ∧ x = (j : Int) - 1 ∧ vv = .int .i64 v ∧ j ≤ n ∧ NxR (fun i => frB V dn i n) n j v ∧ Fr No wo wr
def RkF (n : Nat) (V : Nat → Nat → Bool) (dn : Nat → Bool) (j : Nat) (wo : World) (fv kv : Value) (wr : World) : Prop :=
  ∃ k : Nat, fv = .bool (frB V dn j k) ∧ kv = .int .i64 (k : Int) ∧ k ≤ n ∧ Fr No wo wr
/-- the knot, as far as j -/
def RkK (n : Nat) (V : Nat → Nat → Bool) (dn : Nat → Bool) (db a : Nat) (wo : World) (kv jv : Value) (wr : World) : Prop :=
  ∃ (j : Nat) (A : Option Addr) (c : Nat) (K : List Nat), K = (List.range j).filter (mu V a) ∧ kv = .slice A K.length c ∧ jv = .int .i64 (j : Int) ∧ j ≤ n ∧ Own wr 3 1 (.slice A K.length c) K.length (nl K) ∧ (∀ k, (Value.slice A K.length c).ownBlock = some k → wo.heap.size ≤ k) ∧ Own wr 4 1 (.slice (some ⟨db, 0, none⟩) n n) n (bl (mkF dn V a j) n) ∧ Fr (At1 db) wo wr
/-- the free one's step, told once -/
theorem mk_yes (dn : Nat → Bool) (V : Nat → Nat → Bool) (a j n : Nat) (h : mu V a j = true) : bl (upN (mkF dn V a j) j true) n = bl (mkF dn V a (j + 1)) n := bl_congr fun b _ => by
  rw [← mkF_yes dn a j b h]; rfl

set_option maxRecDepth 100000 in
set_option maxHeartbeats 8000000 in
theorem refknots_any (w : World) (F : Nat → Prop) (A : Option Addr) (c n : Nat) (G : List (List Int)) (hn' : n = G.length) (hg : RdG w F A G) (hn : n ≤ 1000) (hm : ∀ L ∈ G, L.length ≤ 100000) :
    Calls Try.prog 12 #[.slice A n c] w (KnR w G) := by
  have HT : Hid (Calls Try.prog 15 #[.slice A n c] w fun e w' => ∃ gs : Nat, e = .returned (.slice (some ⟨gs, 0, none⟩) n n) ∧ TbS w' gs n (via' G) ∧ Fr No w w') := Lib.hid (tab_any w F A c n G hn' hg hn hm)
  have hmk := fun W => run_make1 (P := Try.prog) elBo zeroBo rfl .i64 .i64 n (by omega) (by simp only [maxLen]; omega) W
  have HRE : Hid (Go.My.Kn.Reach n (via' G)) := Lib.hid (hn' ▸ (reachR G).toReach)
  have HKR : Hid (∀ (As : List Nat) (lA : Option Addr) (lc db : Nat) (vs : List Value) (wr : World), w.heap.size ≤ db → RkM n (via' G) (db + 1) As lA lc vs wr → KnSeq n (via' G) [] (As.map (cls n (via' G))) → Fr No w wr → KnR w G (.returned (.slice lA As.length lc)) wr) := Lib.hid (fun As lA lc db vs wr hd hM hS hf => by
    obtain ⟨A2, c2, e2, e3, e4⟩ := hM.row.form
    injection e2 with e5 e6 e7
    subst e5 e7
    refine ⟨As.map (cls n (via' G)), lA, lc, by rw [List.length_map], hn' ▸ hS, hM.rdG.more fun k hk => (by omega), by rw [List.length_map]; exact e3, e4, hf⟩)
  clear hg hm hn'
  obtain ⟨V, hV⟩ : ∃ V, V = via' G := ⟨_, rfl⟩
  rw [← hV] at HT HRE HKR
  clear hV
  go_enter Try.func12, Try.ntmps12
  go_wp2_with (go_at_call 15; (with_reducible refine HT.out.mono ?_); rintro _ w1 ⟨gs, rfl, ht, hf1⟩; have HTB := Lib.hid ht; have HF1 := Lib.hid hf1; clear ht hf1)
  obtain ⟨db, hdb⟩ : ∃ db, db = w1.heap.size := ⟨_, rfl⟩
  have HDB := Lib.hid hdb
  have HD0 : Hid (Own (w1.alloc (.cells (zrow n (.bool false)).toArray 4)) 4 1 (.slice (some ⟨db, 0, none⟩) n n) n (bl (dnF n V []) n)) := Lib.hid (by
    rw [bl_congr (fun k _ => dnF_nil k), bl_zero, hdb]
    exact zrow_own (Blk.new w1 _ _) (by omega))
  rw [← hdb]
  clear hdb hmk
  have HFA : Hid (Fr No w1 (w1.alloc (.cells (zrow n (.bool false)).toArray 4))) := Lib.hid ((Fr.refl _ _).alloc _)
  have HTX : Hid (∀ (W : World), Fr No w1 W → ∀ i j : Nat, i < n → j < n → ∃ g c : Nat, W.cell? ⟨gs, i, none⟩ = some (.slice (some ⟨g, 0, none⟩) n c) ∧ W.cell? ⟨g, j, none⟩ = some (.bool (V i j))) := Lib.hid (fun W hW => HTB.out.no hW)
  generalize w1.alloc (.cells (zrow n (.bool false)).toArray 4) = w2 at *
  go_loopw [5] (fun ov wr => RkO n V db w1 ov wr) (fun ov _ => n - slen ov)
  case atStart => exact ⟨[], none, 0, [], rfl, ⟨Own.nil _ _ _, fun k hk => by simp [Value.ownBlock] at hk, fun i hi => by cases hi⟩, HD0.out, List.nodup_nil, fun a h => (by cases h), SeqTo.nil n V, HFA.out⟩
  case round =>
    obtain ⟨As, lA, lc, vs, rfl, hM, hD, hnd, hlt, hsq, hf⟩ := hrel
    have HM := Lib.hid hM
    have HD := Lib.hid hD
    have HND := Lib.hid hnd
    have HLT := Lib.hid hlt
    have HSQ := Lib.hid hsq
    have HF := Lib.hid hf
    obtain ⟨dn, hdn⟩ : ∃ dn, dn = dnF n V As.reverse := ⟨_, rfl⟩
    rw [← hdn] at HD
    have HDN := Lib.hid hdn
    obtain ⟨x0, hx0⟩ : ∃ x0 : Int, x0 = (n : Int) - 1 := ⟨_, rfl⟩
    have hwn : wrap64 ((n : Int) - 1) = x0 := wpred hx0 hn
    clear hM hD hnd hlt hsq hf hdn
    go_wp2
    generalize wr = wo at *
    go_loopw [6, 7] (fun vv iv wr => RkN n V dn wo vv iv wr) (fun _ iv _ => (intOf iv + 1).toNat)
    case atStart => exact ⟨n, (n : Int) - 1, -1, rfl, rfl, rfl, Nat.le_refl _, NxR.begin _ _, Fr.refl _ _⟩
    case round =>
      obtain ⟨j, x, v, rfl, hx, rfl, hj, hnx, hf⟩ := hrel
      have HNX := Lib.hid hnx
      have HF2 := Lib.hid hf
      clear hnx hf
      by_cases hj0 : 0 < j
      · obtain ⟨j0, rfl⟩ : ∃ j0, j = j0 + 1 := ⟨j - 1, by omega⟩
        obtain rfl : x = (j0 : Int) := by omega
        have hge : (j0 : Int) ≥ 0 := by omega
        have hjn : j0 < n := by omega
        have hjnI : (j0 : Int) < (n : Int) := by omega
        obtain ⟨y, hy⟩ : ∃ y : Int, y = (j0 : Int) - 1 := ⟨_, rfl⟩
        have hwj : wrap64 ((j0 : Int) - 1) = y := wpred hy (by omega)
        have HY := Lib.hid hy
        have HDW := Lib.hid (HD.out.fr HF2.out fun k _ h => h)
        obtain ⟨-, z0, -⟩ := own_put HDW.out j0 (by rw [bl_len]; exact hjn) (.bool true)
        rw [bl_at _ _ _ hjn] at z0
        have HZ0 := Lib.hid (frB_zero (V := V) dn j0)
        obtain ⟨d0, hd0⟩ : ∃ d0, d0 = dn j0 := ⟨_, rfl⟩
        rw [← hd0] at z0
        have HDD := Lib.hid hd0
        clear hd0 hj0 hx hy hj
        go_wp2
        generalize wr = wp at *
        go_loopw [8, 9] (fun fv kv wr => RkF n V dn j0 wp fv kv wr) (fun _ kv _ => n - (intOf kv).toNat)
        case atStart => exact ⟨0, by rw [HZ0.out, HDD.out], rfl, Nat.zero_le _, Fr.refl _ _⟩
        case round =>
          obtain ⟨k, rfl, rfl, hk, hf⟩ := hrel
          have HF3 := Lib.hid hf
          clear hf
          obtain ⟨ob, hob⟩ : ∃ ob, ob = frB V dn j0 k := ⟨_, rfl⟩
          rw [← hob]
          have HOB := Lib.hid hob
          by_cases hkn : k < n
          · have hknI : (k : Int) < (n : Int) := by omega
            obtain ⟨k1, hk1⟩ : ∃ k1, k1 = k + 1 := ⟨_, rfl⟩
            have hwk : wrap64 ((k : Int) + 1) = (k1 : Int) := w1000 hk1 (by omega)
            have HK1 := Lib.hid hk1
            have HST := Lib.hid (frB_step (V := V) dn j0 k)
            rw [← hob] at HST
            have HFW : Hid (Fr No w1 wr) := Lib.hid (HF.out.trans (HF2.out.trans HF3.out))
            obtain ⟨g1, c1, t1, t2⟩ := HTX.out wr HFW.out j0 k hjn hkn
            obtain ⟨g2, c2, t3, t4⟩ := HTX.out wr HFW.out k j0 hkn hjn
            have HDX := Lib.hid (HDW.out.fr HF3.out fun k _ h => h)
            obtain ⟨-, z2, -⟩ := own_put HDX.out k (by rw [bl_len]; exact hkn) (.bool true)
            rw [bl_at _ _ _ hkn] at z2
            obtain ⟨v1, hv1⟩ : ∃ v1, v1 = V j0 k := ⟨_, rfl⟩
            obtain ⟨v2, hv2⟩ : ∃ v2, v2 = V k j0 := ⟨_, rfl⟩
            obtain ⟨v3, hv3⟩ : ∃ v3, v3 = dn k := ⟨_, rfl⟩
            rw [← hv1] at t2
            rw [← hv2] at t4
            rw [← hv3] at z2
            have HV1 := Lib.hid hv1
            have HV2 := Lib.hid hv2
            have HV3 := Lib.hid hv3
            clear hv1 hv2 hv3 hob hk1 z0
            cases v1 with
            | false =>
              go_wp2
              go_roundw
              case measure =>
                first
                  | (show n - (intOf (Value.int .i64 (wrap64 ((k : Int) + 1)))).toNat < n - (intOf (Value.int .i64 (k : Int))).toNat; rw [hwk]; exact num_lt hkn HK1.out)
                  | (show n - (intOf (Value.int .i64 ((k : Int) + 1))).toNat < n - (intOf (Value.int .i64 (k : Int))).toNat; exact num_lt hkn rfl)
              case rel => exact ⟨k1, by rw [HK1.out, HST.out, ← HV1.out, ← HV2.out, ← HV3.out]; simp, by first | rw [hwk] | (rw [HK1.out]; rfl), by rw [HK1.out]; exact hkn, by first | exact HF3.out | exact HF3.out.trans ((Fr.refl _ _).drewN _) | exact HF3.out.drew⟩
            | true =>
              cases v2 with
              | true =>
                go_wp2
                go_roundw
                case measure =>
                  first
                    | (show n - (intOf (Value.int .i64 (wrap64 ((k : Int) + 1)))).toNat < n - (intOf (Value.int .i64 (k : Int))).toNat; rw [hwk]; exact num_lt hkn HK1.out)
                    | (show n - (intOf (Value.int .i64 ((k : Int) + 1))).toNat < n - (intOf (Value.int .i64 (k : Int))).toNat; exact num_lt hkn rfl)
                case rel => exact ⟨k1, by rw [HK1.out, HST.out, ← HV1.out, ← HV2.out, ← HV3.out]; simp, by first | rw [hwk] | (rw [HK1.out]; rfl), by rw [HK1.out]; exact hkn, by first | exact HF3.out | exact HF3.out.trans ((Fr.refl _ _).drewN _) | exact HF3.out.drew⟩
              | false =>
                cases v3 with
                | true =>
                  go_wp2
                  go_roundw
                  case measure =>
                    first
                      | (show n - (intOf (Value.int .i64 (wrap64 ((k : Int) + 1)))).toNat < n - (intOf (Value.int .i64 (k : Int))).toNat; rw [hwk]; exact num_lt hkn HK1.out)
                      | (show n - (intOf (Value.int .i64 ((k : Int) + 1))).toNat < n - (intOf (Value.int .i64 (k : Int))).toNat; exact num_lt hkn rfl)
                  case rel => exact ⟨k1, by rw [HK1.out, HST.out, ← HV1.out, ← HV2.out, ← HV3.out]; simp, by first | rw [hwk] | (rw [HK1.out]; rfl), by rw [HK1.out]; exact hkn, by first | exact HF3.out | exact HF3.out.trans ((Fr.refl _ _).drewN _) | exact HF3.out.drew⟩
                | false =>
                  go_wp2
                  go_roundw
                  case measure =>
                    first
                      | (show n - (intOf (Value.int .i64 (wrap64 ((k : Int) + 1)))).toNat < n - (intOf (Value.int .i64 (k : Int))).toNat; rw [hwk]; exact num_lt hkn HK1.out)
                      | (show n - (intOf (Value.int .i64 ((k : Int) + 1))).toNat < n - (intOf (Value.int .i64 (k : Int))).toNat; exact num_lt hkn rfl)
                  case rel => exact ⟨k1, by rw [HK1.out, HST.out, ← HV1.out, ← HV2.out, ← HV3.out]; simp, by first | rw [hwk] | (rw [HK1.out]; rfl), by rw [HK1.out]; exact hkn, by first | exact HF3.out | exact HF3.out.trans ((Fr.refl _ _).drewN _) | exact HF3.out.drew⟩
          · have hknI : ¬ (k : Int) < (n : Int) := by omega
            obtain rfl : k = n := by omega
            clear hob z0
            cases ob with
            | true =>
              go_wp2
              go_roundw
              case measure =>
                show ((j0 : Int) - 1 + 1).toNat < ((j0 : Int) + 1).toNat
                omega
              case rel => exact ⟨j0, (j0 : Int) - 1, (j0 : Int), rfl, rfl, rfl, Nat.le_of_lt hjn, HNX.out.yes hjn HOB.out.symm, HF2.out.trans HF3.out⟩
            | false =>
              go_wp2
              go_roundw
              case measure =>
                show ((j0 : Int) - 1 + 1).toNat < ((j0 : Int) + 1).toNat
                omega
              case rel => exact ⟨j0, (j0 : Int) - 1, v, rfl, rfl, rfl, Nat.le_of_lt hjn, HNX.out.no HOB.out.symm, HF2.out.trans HF3.out⟩
      · obtain rfl : j = 0 := by omega
        obtain rfl : x = -1 := by omega
        have HW1 : Hid (Fr No w1 wr) := Lib.hid (HF.out.trans HF2.out)
        have HMW := Lib.hid (HM.out.fr HF2.out fun k h => (h : False).elim)
        have HDW := Lib.hid (HD.out.fr HF2.out fun k _ h => h)
        have HNX' := HNX.out
        clear hj0 hx hj
        rcases HNX' with ⟨rfl, hno⟩ | ⟨a, rfl, -, han, hfa, hla⟩
        · have HNO := Lib.hid hno
          clear hno
          go_wp2
          go_ret
          refine HKR.out As lA lc db vs wr (by have := HF1.out.size; have := HDB.out; omega) HMW.out ?_ (HF1.out.trans HW1.out)
          have h1 := HSQ.out [] (KnSeq.nil fun i hi => by
            have h2 : frB V dn i n = false := HNO.out i (Nat.zero_le _) hi.1
            rw [HDN.out, (frB_iff HRE.out _ hi.1).2 hi] at h2
            cases h2)
          rw [List.append_nil] at h1
          exact h1
        · have HFA' : Hid (Free n V As.reverse a) := Lib.hid ((frB_iff HRE.out _ han).1 (HDN.out ▸ hfa))
          have HLA : Hid (∀ i, i < a → ¬ Free n V As.reverse i) := Lib.hid (fun i hi hfr => by
            have h2 : frB V dn i n = false := hla i (Nat.zero_le _) hi
            rw [HDN.out, (frB_iff HRE.out _ hfr.1).2 hfr] at h2
            cases h2)
          have hna : ¬ (a : Int) < 0 := by omega
          have hanI : (a : Int) < (n : Int) := by omega
          have hdb : db < wr.heap.size := by
            obtain ⟨cs, hcs⟩ := HDW.out.blk db rfl
            exact hcs.lt
          have HLEN : Hid (As.length + 1 ≤ n) := Lib.hid (by
            have h1 : a ∉ As := fun h => HFA'.out.2.1 (by rw [least_name HRE.out HFA'.out HLA.out]; exact List.mem_reverse.2 h)
            have h2 := nodup_leN (l := a :: As) (n := n) (List.nodup_cons.2 ⟨h1, HND.out⟩) (fun x hx => by
              rcases List.mem_cons.1 hx with rfl | hx
              · exact han
              · exact HLT.out x hx)
            exact h2)
          have hxl : Hid (As.length + 1 ≤ maxLen ∧ (As.length + 1) * 24 ≤ 140737488355328) := by
            have := HLEN.out
            refine ⟨?_, ?_⟩ <;> (try simp only [maxLen]) <;> omega
          clear hfa hla
          go_wp2
          generalize wr = wq at *
          go_loopw [10, 11] (fun kv jv wr => RkK n V dn db a wq kv jv wr) (fun _ jv _ => n - (intOf jv).toNat)
          case atStart => exact ⟨0, none, 0, [], rfl, rfl, rfl, Nat.zero_le _, Own.nil _ _ _, fun k hk => by simp [Value.ownBlock] at hk, by rw [bl_congr (fun k _ => mkF_zero (V := V) dn a k)]; exact HDW.out, Fr.refl _ _⟩
          case round =>
            obtain ⟨j, B, d, K, hK, rfl, rfl, hj, ho, hnw, hdd, hf⟩ := hrel
            have HK := Lib.hid hK
            have HO := Lib.hid ho
            have HNW := Lib.hid hnw
            have HDD := Lib.hid hdd
            have HF3 := Lib.hid hf
            have HFW : Hid (Fr No w1 wr) := Lib.hid (HW1.out.trans' hf fun k hk hlt => by have hk : k = db := hk; have := HDB.out; omega)
            clear hK ho hnw hdd hf
            by_cases hjn : j < n
            · have hjnI : (j : Int) < (n : Int) := by omega
              obtain ⟨j1, hj1⟩ : ∃ j1, j1 = j + 1 := ⟨_, rfl⟩
              have hwj : wrap64 ((j : Int) + 1) = (j1 : Int) := w1000 hj1 (by omega)
              have HJ1 := Lib.hid hj1
              have hX : Hid (K.length + 1 ≤ maxLen ∧ (K.length + 1) * 8 ≤ 140737488355328) := by
                have h1 : K.length ≤ j := by
                  rw [HK.out]
                  exact Nat.le_trans (List.length_filter_le _ _) (Nat.le_of_eq List.length_range)
                refine ⟨?_, ?_⟩ <;> (try simp only [maxLen]) <;> omega
              obtain ⟨g1, c1, t1, t2⟩ := HTX.out wr HFW.out a j han hjn
              obtain ⟨g2, c2, t3, t4⟩ := HTX.out wr HFW.out j a hjn han
              have hcls := cls_step (V := V) a j
              rw [← HK.out] at hcls
              have HCL := Lib.hid hcls
              obtain ⟨v1, hv1⟩ : ∃ v1, v1 = V a j := ⟨_, rfl⟩
              obtain ⟨v2, hv2⟩ : ∃ v2, v2 = V j a := ⟨_, rfl⟩
              rw [← hv1] at t2
              rw [← hv2] at t4
              have hmu : mu V a j = (decide (j = a) || (v1 && v2)) := by rw [mu_cases, hv1, hv2]
              have HMU := Lib.hid hmu
              have HPUT : Hid (∀ (w7 : World), Fr (AtO (Value.slice B K.length d).ownBlock) wr w7 → w7.cell? ⟨db, j, none⟩ = some (.bool (mkF dn V a j j)) ∧ w7.frozen? ⟨db, j, none⟩ = false ∧ (mu V a j = true → Own (w7.setCell ⟨db, j, none⟩ (.bool true)) 4 1 (.slice (some ⟨db, 0, none⟩) n n) n (bl (mkF dn V a j1) n))) := Lib.hid (fun w7 hf7 => by
                have o7 := HDD.out.fr hf7 fun k hk hs => by
                  injection hk with hk
                  have hk : db = k := hk
                  subst hk
                  have := HNW.out db hs
                  omega
                obtain ⟨o1, z0, z1⟩ := own_put o7 j (by rw [bl_len]; exact hjn) (.bool true)
                rw [bl_at _ _ _ hjn] at z0
                refine ⟨z0, z1, fun hmm => ?_⟩
                rw [bl_set _ _ _ _ hjn, mk_yes dn V a j n hmm, ← hj1] at o1
                exact o1)
              clear hv1 hv2 hj1 hcls hmu
              by_cases hja : j = a
              · have hjaB : decide (j = a) = true := decide_eq_true hja
                rw [hjaB] at HMU
                subst hja
                have HYES : Hid (mu V j j = true) := Lib.hid (by rw [HMU.out]; simp)
                go_wp2_with (at_builtin; refine wpList_app _ rfl (.tmp 91) (.tmp 93) 26 26 rfl elI (HO.out.alloc _) rfl (Src.of_new (cs := #[.int .i64 (j : Int)]) (t := 3) wr.heap.size (heap_alloc_new wr _) Try.underlying26 rfl (by simp [Value.oneCell'])) rfl hX.out.1 hX.out.2 ?_; intro v7 w7 hown7 hfr7 hnew7; obtain ⟨A7, c7, rfl, _, _⟩ := hown7.form; have HO7 := Lib.hid hown7; have HF7 := Lib.hid (((Fr.refl _ wr).alloc _).trans hfr7); have HN7 := Lib.hid hnew7; obtain ⟨z0, z1, z2⟩ := HPUT.out w7 HF7.out; have HZ2 := Lib.hid z2; clear hown7 hfr7 hnew7 z2)
                go_roundw
                case measure =>
                  first
                    | (show n - (intOf (Value.int .i64 (wrap64 ((j : Int) + 1)))).toNat < n - (intOf (Value.int .i64 (j : Int))).toNat; rw [hwj]; exact num_lt hjn HJ1.out)
                    | (show n - (intOf (Value.int .i64 ((j : Int) + 1))).toNat < n - (intOf (Value.int .i64 (j : Int))).toNat; exact num_lt hjn rfl)
                case rel =>
                  have hl2 : (K ++ [j]).length = K.length + 1 := by simp
                  have hne : (Value.slice A7 (K.length + 1) c7).ownBlock ≠ some db := fun e => by
                    rcases HN7.out with e2 | e2
                    · have := HNW.out db (e2 ▸ e); omega
                    · rw [e2] at e; injection e with e; rw [World.size_alloc] at e; have := HF3.out.size; omega
                  refine ⟨j1, A7, c7, K ++ [j], by rw [HJ1.out, HCL.out, HYES.out]; simp, by rw [hl2], by first | rw [hwj] | (rw [HJ1.out]; rfl), by rw [HJ1.out]; exact hjn, ?_, fun x hx => ?_, HZ2.out HYES.out, ?_⟩
                  · rw [hl2, nl_append]; exact HO7.out.setCell hne _
                  · rw [hl2] at hx
                    rcases HN7.out with e | e
                    · exact HNW.out x (e ▸ hx)
                    · rw [e] at hx; injection hx with hx; rw [World.size_alloc] at hx; have := HF3.out.size; omega
                  · exact (HF3.out.trans' HF7.out fun x hx hlt => by have := HNW.out x hx; omega).setCell (p := ⟨db, j, none⟩) (fun _ => rfl) _
              · have hjaI : ((j : Int) == (a : Int)) = false := by rw [beq_eq_false_iff_ne]; omega
                have hjaB : decide (j = a) = false := decide_eq_false hja
                rw [hjaB] at HMU
                cases v1 with
                | false =>
                  have HNO : Hid (mu V a j = false) := Lib.hid (by rw [HMU.out]; simp)
                  go_wp2
                  go_roundw
                  case measure =>
                    first
                      | (show n - (intOf (Value.int .i64 (wrap64 ((j : Int) + 1)))).toNat < n - (intOf (Value.int .i64 (j : Int))).toNat; rw [hwj]; exact num_lt hjn HJ1.out)
                      | (show n - (intOf (Value.int .i64 ((j : Int) + 1))).toNat < n - (intOf (Value.int .i64 (j : Int))).toNat; exact num_lt hjn rfl)
                  case rel =>
                    refine ⟨j1, B, d, K, by rw [HJ1.out, HCL.out, HNO.out]; simp, rfl, by first | rw [hwj] | (rw [HJ1.out]; rfl), by rw [HJ1.out]; exact hjn, HO.out, HNW.out, ?_, by first | exact HF3.out | exact HF3.out.trans ((Fr.refl _ _).drewN _)⟩
                    rw [HJ1.out, bl_congr (fun b _ => mkF_no dn a j b HNO.out)]
                    exact HDD.out
                | true =>
                  cases v2 with
                  | false =>
                    have HNO : Hid (mu V a j = false) := Lib.hid (by rw [HMU.out]; simp)
                    go_wp2
                    go_roundw
                    case measure =>
                      first
                        | (show n - (intOf (Value.int .i64 (wrap64 ((j : Int) + 1)))).toNat < n - (intOf (Value.int .i64 (j : Int))).toNat; rw [hwj]; exact num_lt hjn HJ1.out)
                        | (show n - (intOf (Value.int .i64 ((j : Int) + 1))).toNat < n - (intOf (Value.int .i64 (j : Int))).toNat; exact num_lt hjn rfl)
                    case rel =>
                      refine ⟨j1, B, d, K, by rw [HJ1.out, HCL.out, HNO.out]; simp, rfl, by first | rw [hwj] | (rw [HJ1.out]; rfl), by rw [HJ1.out]; exact hjn, HO.out, HNW.out, ?_, by first | exact HF3.out | exact HF3.out.trans ((Fr.refl _ _).drewN _)⟩
                      rw [HJ1.out, bl_congr (fun b _ => mkF_no dn a j b HNO.out)]
                      exact HDD.out
                  | true =>
                    have HYES : Hid (mu V a j = true) := Lib.hid (by rw [HMU.out]; simp)
                    go_wp2_with (at_builtin; refine wpList_app _ rfl (.tmp 91) (.tmp 93) 26 26 rfl elI (HO.out.alloc _) rfl (Src.of_new (cs := #[.int .i64 (j : Int)]) (t := 3) wr.heap.size (heap_alloc_new wr _) Try.underlying26 rfl (by simp [Value.oneCell'])) rfl hX.out.1 hX.out.2 ?_; intro v7 w7 hown7 hfr7 hnew7; obtain ⟨A7, c7, rfl, _, _⟩ := hown7.form; have HO7 := Lib.hid hown7; have HF7 := Lib.hid (((Fr.refl _ wr).alloc _).trans hfr7); have HN7 := Lib.hid hnew7; obtain ⟨z0, z1, z2⟩ := HPUT.out w7 HF7.out; have HZ2 := Lib.hid z2; clear hown7 hfr7 hnew7 z2)
                    go_roundw
                    case measure =>
                      first
                        | (show n - (intOf (Value.int .i64 (wrap64 ((j : Int) + 1)))).toNat < n - (intOf (Value.int .i64 (j : Int))).toNat; rw [hwj]; exact num_lt hjn HJ1.out)
                        | (show n - (intOf (Value.int .i64 ((j : Int) + 1))).toNat < n - (intOf (Value.int .i64 (j : Int))).toNat; exact num_lt hjn rfl)
                    case rel =>
                      have hl2 : (K ++ [j]).length = K.length + 1 := by simp
                      have hne : (Value.slice A7 (K.length + 1) c7).ownBlock ≠ some db := fun e => by
                        rcases HN7.out with e2 | e2
                        · have := HNW.out db (e2 ▸ e); omega
                        · rw [e2] at e; injection e with e; rw [World.size_alloc] at e; have := HF3.out.size; omega
                      refine ⟨j1, A7, c7, K ++ [j], by rw [HJ1.out, HCL.out, HYES.out]; simp, by rw [hl2], by first | rw [hwj] | (rw [HJ1.out]; rfl), by rw [HJ1.out]; exact hjn, ?_, fun x hx => ?_, HZ2.out HYES.out, ?_⟩
                      · rw [hl2, nl_append]; exact HO7.out.setCell hne _
                      · rw [hl2] at hx
                        rcases HN7.out with e | e
                        · exact HNW.out x (e ▸ hx)
                        · rw [e] at hx; injection hx with hx; rw [World.size_alloc] at hx; have := HF3.out.size; omega
                      · exact (HF3.out.trans' HF7.out fun x hx hlt => by have := HNW.out x hx; omega).setCell (p := ⟨db, j, none⟩) (fun _ => rfl) _
            · have hjnI : ¬ (j : Int) < (n : Int) := by omega
              obtain rfl : j = n := by omega
              have hKc : K = cls j V a := HK.out
              subst hKc
              have HMX := Lib.hid (HMW.out.fr HF3.out fun k hk => by have hk : k = db := hk; omega)
              go_wp2_with (at_builtin; refine wpList_app _ rfl (.tmp 98) (.tmp 100) 22 22 rfl elG (HMX.out.row.alloc _) rfl (Src.of_new (cs := #[.slice B (cls j V a).length d]) (t := 26) wr.heap.size (heap_alloc_new wr _) Try.underlying22 rfl (by simp [Value.oneCell'])) rfl hxl.out.1 hxl.out.2 ?_; intro v7 w7 hown7 hfr7 hnew7; obtain ⟨A7, c7, rfl, _, _⟩ := hown7.form; have HO7 := Lib.hid hown7; have HF7 := Lib.hid hfr7; have HN7 := Lib.hid hnew7; clear hown7 hfr7 hnew7)
              go_roundw
              case measure =>
                have := HLEN.out
                simp only [slen]
                omega
              case rel =>
                have hnm := least_name HRE.out HFA'.out HLA.out
                have hl2 : (As ++ [a]).length = As.length + 1 := by simp
                have hB : db + 1 ≤ wr.heap.size := Nat.le_trans hdb HF3.out.size
                have hbk : ∀ k, (Value.slice B (cls j V a).length d).ownBlock = some k → db + 1 ≤ k := fun k hk => Nat.le_trans hdb (HNW.out k hk)
                have hD7 : Own w7 4 1 (.slice (some ⟨db, 0, none⟩) j j) j (bl (dnF j V (As ++ [a]).reverse) j) := by
                  have e : bl (dnF j V (As ++ [a]).reverse) j = bl (mkF dn V a j) j := bl_congr fun b hb => by
                    rw [HDN.out, mkF_last HRE.out _ han hnm hb, List.reverse_append]; rfl
                  rw [e]
                  refine (HDD.out.alloc _).fr HF7.out fun k hk hs => ?_
                  injection hk with hk
                  have hk : db = k := hk
                  subst hk
                  have := HMX.out.new db hs
                  omega
                have hF17 : Fr No w1 w7 := (HFW.out.alloc _).trans' HF7.out fun x hx hlt => by
                  have := HMX.out.new x hx
                  have := HDB.out
                  omega
                refine ⟨As ++ [a], A7, c7, _, by rw [hl2], HMX.out.push HO.out hbk hB HO7.out HF7.out HN7.out, hD7, ?_, ?_, HSQ.out.more HFA'.out HLA.out, hF17⟩
                · refine List.nodup_append.2 ⟨HND.out, by simp, ?_⟩
                  intro x hx y hy e
                  rw [List.mem_singleton] at hy
                  subst hy
                  subst e
                  exact HFA'.out.2.1 (by rw [hnm]; exact List.mem_reverse.2 hx)
                · intro x hx
                  rcases List.mem_append.1 hx with hx | hx
                  · exact HLT.out x hx
                  · rw [List.mem_singleton] at hx; rw [hx]; exact han
end Go.Proofs.Ytcjofakhefpfdaa
