/- The document's Open. -/
import Derived.Test.YtcjofakhefpfdaaKnL2
import Derived.Test.YtcjofakhefpfdaaKnD
import Derived.Test.YtcjofakhefpfdaaKnM6
import Derived.Test.YtcjofakhefpfdaaKnO
import Derived.Deep.DeepCutAuto
namespace Go.Proofs.Ytcjofakhefpfdaa
open Go.RowKit Go.My Go.My.Kn Go.Maps
set_option linter.unusedSimpArgs false
set_option linter.unusedVariables false
attribute [local go_sem ↓] Go.wp_at_zero Go.wp_at_succ

/-- the table of who reaches whom -/
def TbS (w : World) (gs n : Nat) (V : Nat → Nat → Bool) : Prop := ∀ i j, i < n → j < n → ∃ g c : Nat, w.cell? ⟨gs, i, none⟩ = some (.slice (some ⟨g, 0, none⟩) n c) ∧ w.cell? ⟨g, j, none⟩ = some (.bool (V i j))
theorem TbS.no {w w' : World} {gs n : Nat} {V : Nat → Nat → Bool} (h : TbS w gs n V) (hf : Fr No w w') : TbS w' gs n V := fun i j hi hj => by
  obtain ⟨g, c, h1, h2⟩ := h i j hi hj
  exact ⟨g, c, hf.cell_some h1 (fun h => h), hf.cell_some h2 (fun h => h)⟩
def TabR (w : World) (G : List (List Int)) (n : Nat) (e : Ending) (w' : World) : Prop := ∃ gs : Nat, e = .returned (.slice (some ⟨gs, 0, none⟩) n n) ∧ TbS w' gs n (via' G) ∧ Fr No w w'
theorem tab_any (w : World) (F : Nat → Prop) (A : Option Addr) (c n : Nat) (G : List (List Int)) (hn' : n = G.length) (hg : RdG w F A G) (hn : n ≤ 1000) (hm : ∀ L ∈ G, L.length ≤ 100000) :
    Calls Try.prog 15 #[.slice A n c] w (TabR w G n) := by
  subst hn'
  refine (table_any w F A c G hg hn hm).mono ?_
  rintro e w' ⟨gs, vs, rfl, hb, hf⟩
  refine ⟨gs, rfl, fun i j hi hj => ?_, hf⟩
  have hi' : i < (brows (fun a => marks (via (stp G) G.length a) G.length) G.length).length := by rw [brows_len]; exact hi
  have e1 := brows_at (fun a => marks (via (stp G) G.length a) G.length) G.length i hi'
  obtain ⟨g, c', -, h2, h3, -⟩ := hb.row (i := i) (j := j) hi' (by rw [e1, marks_len]; exact hj)
  have e2 : ((brows (fun a => marks (via (stp G) G.length a) G.length) G.length)[i]).length = G.length := by rw [e1, marks_len]
  refine ⟨g, c', by rw [← e2]; exact h2, ?_⟩
  rw [h3]
  congr 2
  have e3 : ∀ (l l' : List Bool) (h : l = l') (hj1 : j < l.length) (hj2 : j < l'.length), l[j] = l'[j] := fun l l' h _ _ => by subst h; rfl
  rw [e3 _ _ e1 (by rw [e1, marks_len]; exact hj) (by rw [marks_len]; exact hj), marks_at]
  rfl

/-- open, by the table -/
def opB (V : Nat → Nat → Bool) (kl : List Bool) (i k : Nat) : Bool := !unk kl i && (List.range k).all fun b => !(V i b && unk kl b)
theorem opB_zero (V : Nat → Nat → Bool) (kl : List Bool) (i : Nat) : opB V kl i 0 = !unk kl i := by unfold opB; simp
theorem opB_step (V : Nat → Nat → Bool) (kl : List Bool) (i k : Nat) : opB V kl i (k + 1) = (opB V kl i k && !(V i k && unk kl k)) := by
  unfold opB; rw [List.range_succ, List.all_append, List.all_cons, List.all_nil, Bool.and_true, Bool.and_assoc]
theorem opB_iff (G : List (List Int)) (kl : List Bool) (i : Nat) : opB (via' G) kl i G.length = true ↔ unk kl i = false ∧ ∀ b, Tr (stp G) i b → unk kl b = false := by
  unfold opB
  rw [Bool.and_eq_true, List.all_eq_true, Bool.not_eq_true']
  refine and_congr_right fun _ => ⟨fun h b hb => ?_, fun h b _ => ?_⟩
  · have h1 := (vtr G i b).2 hb
    have h2 := h b (List.mem_range.2 ((reachR G).lt i b h1).2)
    rw [h1] at h2
    simpa using h2
  · cases h1 : via' G i b with
    | false => rfl
    | true => rw [h b ((vtr G i b).1 h1)]; rfl
def OpO (w : World) (n : Nat) (V : Nat → Nat → Bool) (kl : List Bool) (w1 : World) (ov iv : Value) (wr : World) : Prop :=
  ∃ (i : Nat) (B : Option Addr) (d : Nat) (L : List Nat), L = (List.range i).filter (fun a => opB V kl a n) ∧ ov = .slice B L.length d ∧ iv = .int .i64 (i : Int) ∧ i ≤ n ∧ Own wr 3 1 (.slice B L.length d) L.length (nl L) ∧ (∀ k, (Value.slice B L.length d).ownBlock = some k → w1.heap.size ≤ k) ∧ Fr No w1 wr
def OpI (n : Nat) (V : Nat → Nat → Bool) (kl : List Bool) (i : Nat) (wo : World) (bv kv : Value) (wr : World) : Prop := ∃ k : Nat, bv = .bool (opB V kl i k) ∧ kv = .int .i64 (k : Int) ∧ k ≤ n ∧ wo = wr
theorem up_filter (p : Nat → Bool) (n : Nat) : (((List.range n).filter p).map fun (x : Nat) => (x : Int)).Pairwise (· < ·) := by
  rw [List.pairwise_map]
  exact (List.pairwise_lt_range.filter _).imp fun h => by omega

set_option maxRecDepth 100000 in
set_option maxHeartbeats 4000000 in
theorem refopen_any (w : World) (F F2 : Nat → Prop) (A K : Option Addr) (c kc n : Nat) (G : List (List Int)) (kl : List Bool) (hn' : n = G.length) (hg : RdG w F A G) (hr : Rd w F2 1 K kl.length (kl.map Value.bool)) (hn : n ≤ 1000) (hm : ∀ L ∈ G, L.length ≤ 100000) :
    Calls Try.prog 18 #[.slice A n c, .slice K kl.length kc] w (RetX w (openX G kl)) := by
  have HT := Lib.hid (tab_any w F A c n G hn' hg hn hm)
  have HK := Lib.hid hr
  have HN' := Lib.hid hn'
  clear hg hr hm hn'
  go_enter Try.func18, Try.ntmps18
  go_wp2_with (go_at_call 15; (with_reducible refine HT.out.mono ?_); rintro _ w1 ⟨gs, rfl, ht, hf1⟩; have HTB := Lib.hid ht; have HF1 := Lib.hid hf1; clear ht hf1)
  have HK1 : Hid (∀ W, Fr No w1 W → ∀ k (h : k < kl.length), ∃ ad, K = some ad ∧ W.cell? (ad.add k) = some (.bool kl[k])) := Lib.hid (fun W hW k hk => by
    obtain ⟨ad, u, e, _, hu, hc⟩ := ((HK.out.no_ HF1.out).no_ hW).at_ (k := k) hk
    rw [List.getElem?_map, List.getElem?_eq_getElem hk] at hu
    injection hu with hu
    subst hu
    exact ⟨ad, e, hc⟩)
  go_loopw [6, 7] (fun ov iv wr => OpO w n (via' G) kl w1 ov iv wr) (fun _ iv _ => n - (intOf iv).toNat)
  case atStart => exact ⟨0, none, 0, [], rfl, rfl, rfl, Nat.zero_le _, Own.nil _ _ _, fun k hk => by simp [Value.ownBlock] at hk, Fr.refl _ _⟩
  case round =>
    obtain ⟨i, B, d, L, hL, rfl, rfl, hi, ho, hnw, hf⟩ := hrel
    have HO := Lib.hid ho
    have HNW := Lib.hid hnw
    have HF := Lib.hid hf
    have HL := Lib.hid hL
    clear ho hnw hf hL
    by_cases hil : i < n
    · have hilI : (i : Int) < (n : Int) := by omega
      obtain ⟨i1, hi1⟩ : ∃ i1, i1 = i + 1 := ⟨_, rfl⟩
      have hwi : wrap64 ((i : Int) + 1) = (i1 : Int) := by unfold wrap64; omega
      have HI1 := Lib.hid hi1
      clear hi1
      obtain ⟨u0, hu0⟩ : ∃ u0, u0 = !unk kl i := ⟨_, rfl⟩
      have HU0 := Lib.hid hu0
      have HREG : Hid (i < kl.length → ∃ ad, K = some ad ∧ wr.cell? (ad.add i) = some (.bool u0)) := Lib.hid (fun h => by
        obtain ⟨ad, e1, e2⟩ := HK1.out wr HF.out i h
        refine ⟨ad, e1, ?_⟩
        rw [e2, hu0, unk_in h, Bool.not_not])
      clear hu0
      have hX : Hid (L.length + 1 ≤ maxLen ∧ (L.length + 1) * 8 ≤ 140737488355328) := by
        have h1 : L.length ≤ i := by
          rw [HL.out]
          exact Nat.le_trans (List.length_filter_le _ _) (Nat.le_of_eq List.length_range)
        refine ⟨?_, ?_⟩ <;> (try simp only [maxLen]) <;> omega
      have HKC : Hid (∀ k, (h : k < kl.length) → ∃ ad, K = some ad ∧ wr.cell? (ad.add k) = some (.bool kl[k])) := Lib.hid (fun k h => HK1.out wr HF.out k h)
      have HTW := Lib.hid (HTB.out.no HF.out)
      by_cases hk : i < kl.length
      focus
        obtain ⟨ad, rfl, hc⟩ := HREG.out hk
        have hkI : (i : Int) < (kl.length : Int) := by omega
        clear hk
        go_wp2
      rotate_left
      focus
        have hkI : ¬ (i : Int) < (kl.length : Int) := by omega
        have hu : u0 = false := by rw [HU0.out, unk_out hk]; rfl
        have HU1 : Hid (u0 = false) := Lib.hid hu
        clear hk hu
        go_wp2
      all_goals
        generalize wr = wo at *
        go_loopw [8, 9] (fun bv kv wr => OpI n (via' G) kl i wo bv kv wr) (fun _ kv _ => n - (intOf kv).toNat)
        case atStart => exact ⟨0, by first | rw [opB_zero, HU0.out] | rw [opB_zero, ← HU0.out, HU1.out], rfl, Nat.zero_le _, rfl⟩
        case round =>
          obtain ⟨k, rfl, rfl, hkn, rfl⟩ := hrel
          obtain ⟨ob, hob⟩ : ∃ ob, ob = opB (via' G) kl i k := ⟨_, rfl⟩
          rw [← hob]
          have HOB := Lib.hid hob
          by_cases hkl : k < n
          · have hklI : (k : Int) < (n : Int) := by omega
            obtain ⟨k1, hk1⟩ : ∃ k1, k1 = k + 1 := ⟨_, rfl⟩
            have hwk : wrap64 ((k : Int) + 1) = (k1 : Int) := by unfold wrap64; omega
            have HK1' := Lib.hid hk1
            obtain ⟨g, cg, t1, t2⟩ := HTW.out i k hil hkl
            have hstep := opB_step (via' G) kl i k
            rw [← hob] at hstep
            have HST := Lib.hid hstep
            clear hob hk1 hstep
            obtain ⟨v, hv⟩ : ∃ v, v = via' G i k := ⟨_, rfl⟩
            rw [← hv] at t2
            have HV := Lib.hid hv
            clear hv
            cases v with
            | false =>
              go_wp2
              go_roundw
              case measure =>
                first
                  | (show n - (intOf (Value.int .i64 (wrap64 ((k : Int) + 1)))).toNat < n - (intOf (Value.int .i64 (k : Int))).toNat; rw [hwk]; exact num_lt hkl HK1'.out)
                  | (show n - (intOf (Value.int .i64 ((k : Int) + 1))).toNat < n - (intOf (Value.int .i64 (k : Int))).toNat; exact num_lt hkl rfl)
              case rel => exact ⟨k1, by rw [HK1'.out, HST.out, ← HV.out]; simp, by first | rw [hwk] | (rw [HK1'.out]; rfl), by rw [HK1'.out]; exact hkl, rfl⟩
            | true =>
              by_cases hkk : k < kl.length
              · obtain ⟨adk, e1, e2⟩ := HKC.out k hkk
                have hkkI : (k : Int) < (kl.length : Int) := by omega
                obtain ⟨b, hb⟩ : ∃ b, b = kl[k] := ⟨_, rfl⟩
                rw [← hb] at e2
                have HUK : Hid (unk kl k = !b) := Lib.hid (by rw [unk_in hkk, hb])
                clear hb hkk
                (first | subst e1 | (injection e1 with e1; subst e1))
                cases b with
                | true =>
                  go_wp2
                  go_roundw
                  case measure =>
                    first
                      | (show n - (intOf (Value.int .i64 (wrap64 ((k : Int) + 1)))).toNat < n - (intOf (Value.int .i64 (k : Int))).toNat; rw [hwk]; exact num_lt hkl HK1'.out)
                      | (show n - (intOf (Value.int .i64 ((k : Int) + 1))).toNat < n - (intOf (Value.int .i64 (k : Int))).toNat; exact num_lt hkl rfl)
                  case rel => exact ⟨k1, by rw [HK1'.out, HST.out, ← HV.out, HUK.out]; simp, by first | rw [hwk] | (rw [HK1'.out]; rfl), by rw [HK1'.out]; exact hkl, rfl⟩
                | false =>
                  go_wp2
                  go_roundw
                  case measure =>
                    first
                      | (show n - (intOf (Value.int .i64 (wrap64 ((k : Int) + 1)))).toNat < n - (intOf (Value.int .i64 (k : Int))).toNat; rw [hwk]; exact num_lt hkl HK1'.out)
                      | (show n - (intOf (Value.int .i64 ((k : Int) + 1))).toNat < n - (intOf (Value.int .i64 (k : Int))).toNat; exact num_lt hkl rfl)
                  case rel => exact ⟨k1, by rw [HK1'.out, HST.out, ← HV.out, HUK.out]; simp, by first | rw [hwk] | (rw [HK1'.out]; rfl), by rw [HK1'.out]; exact hkl, rfl⟩
              · have hkkI : ¬ (k : Int) < (kl.length : Int) := by omega
                have HUK : Hid (unk kl k = true) := Lib.hid (unk_out hkk)
                clear hkk
                go_wp2
                go_roundw
                case measure =>
                  first
                    | (show n - (intOf (Value.int .i64 (wrap64 ((k : Int) + 1)))).toNat < n - (intOf (Value.int .i64 (k : Int))).toNat; rw [hwk]; exact num_lt hkl HK1'.out)
                    | (show n - (intOf (Value.int .i64 ((k : Int) + 1))).toNat < n - (intOf (Value.int .i64 (k : Int))).toNat; exact num_lt hkl rfl)
                case rel => exact ⟨k1, by rw [HK1'.out, HST.out, ← HV.out, HUK.out]; simp, by first | rw [hwk] | (rw [HK1'.out]; rfl), by rw [HK1'.out]; exact hkl, rfl⟩
          · have hklI : ¬ (k : Int) < (n : Int) := by omega
            have hke : k = n := by omega
            subst hke
            clear hob
            have hLs : (List.range (i + 1)).filter (fun a => opB (via' G) kl a k) = L ++ if ob then [i] else [] := by
              rw [List.range_succ, List.filter_append, ← HL.out, HOB.out]
              congr 1
              rw [List.filter_cons, List.filter_nil]
            have HLS := Lib.hid hLs
            clear hLs
            cases ob with
            | false =>
              go_wp2
              go_roundw
              case measure =>
                first
                  | (show k - (intOf (Value.int .i64 (wrap64 ((i : Int) + 1)))).toNat < k - (intOf (Value.int .i64 (i : Int))).toNat; rw [hwi]; exact num_lt hil HI1.out)
                  | (show k - (intOf (Value.int .i64 ((i : Int) + 1))).toNat < k - (intOf (Value.int .i64 (i : Int))).toNat; exact num_lt hil rfl)
              case rel => exact ⟨i1, B, d, L, by rw [HI1.out, HLS.out]; simp, rfl, by first | rw [hwi] | (rw [HI1.out]; rfl), by rw [HI1.out]; exact hil, HO.out, HNW.out, HF.out⟩
            | true =>
              go_wp2_with (at_builtin; refine wpList_app _ rfl (.tmp 55) (.tmp 57) 26 26 rfl elI (HO.out.alloc _) rfl (Src.of_new (cs := #[.int .i64 (i : Int)]) (t := 3) wo.heap.size (heap_alloc_new wo _) Try.underlying26 rfl (by simp [Value.oneCell'])) rfl hX.out.1 hX.out.2 ?_; intro v7 w7 hown7 hfr7 hnew7; obtain ⟨A7, c7, rfl, _, _⟩ := hown7.form; have HO7 := Lib.hid hown7; have HF7 := Lib.hid hfr7; have HN7 := Lib.hid hnew7; clear hown7 hfr7 hnew7)
              go_roundw
              case measure =>
                first
                  | (show k - (intOf (Value.int .i64 (wrap64 ((i : Int) + 1)))).toNat < k - (intOf (Value.int .i64 (i : Int))).toNat; rw [hwi]; exact num_lt hil HI1.out)
                  | (show k - (intOf (Value.int .i64 ((i : Int) + 1))).toNat < k - (intOf (Value.int .i64 (i : Int))).toNat; exact num_lt hil rfl)
              case rel =>
                have hl2 : (L ++ [i]).length = L.length + 1 := by simp
                refine ⟨i1, A7, c7, L ++ [i], by rw [HI1.out, HLS.out]; simp, by rw [hl2], by first | rw [hwi] | (rw [HI1.out]; rfl), by rw [HI1.out]; exact hil, ?_, fun x hx => ?_, ?_⟩
                · rw [hl2, nl_append]; exact HO7.out
                · rw [hl2] at hx
                  rcases HN7.out with e | e
                  · exact HNW.out x (e ▸ hx)
                  · rw [e] at hx; injection hx with hx; rw [World.size_alloc] at hx; have := HF.out.size; omega
                · exact (HF.out.alloc _).trans' HF7.out fun x hx hlt => by have := HNW.out x hx; omega
    · have hilI : ¬ (i : Int) < (n : Int) := by omega
      have hie : i = n := by omega
      go_wp2
      go_ret
      have hLn : (L.map fun (x : Nat) => (x : Int)).length = L.length := List.length_map _
      have hmem : ∀ x : Int, x ∈ (L.map fun (x : Nat) => (x : Int)) ↔ openX G kl x := fun x => by
        rw [openX_iff, HL.out, List.mem_map, hie]
        constructor
        · rintro ⟨a, ha, rfl⟩
          obtain ⟨h1, h2⟩ := List.mem_filter.1 ha
          rw [HN'.out] at h1 h2
          obtain ⟨h3, h4⟩ := (opB_iff G kl a).1 h2
          exact ⟨a, List.mem_range.1 h1, rfl, h3, h4⟩
        · rintro ⟨a, ha, rfl, h3, h4⟩
          refine ⟨a, List.mem_filter.2 ⟨List.mem_range.2 (by rw [HN'.out]; exact ha), ?_⟩, rfl⟩
          rw [HN'.out]
          exact (opB_iff G kl a).2 ⟨h3, h4⟩
      have hret : RetOwn w 3 1 none (L.map fun (x : Nat) => (x : Int)).length (is_ (L.map fun (x : Nat) => (x : Int))) (.returned (.slice B L.length d)) wr := by
        refine ⟨.slice B L.length d, rfl, ?_, (HF1.out.trans HF.out).mono (fun _ _ h => nomatch h), ?_⟩
        · rw [hLn, ← nl_is]; exact HO.out
        · cases hob : (Value.slice B L.length d).ownBlock with
          | none => exact .inl rfl
          | some k => exact .inr ⟨k, rfl, Nat.le_trans HF1.out.size (HNW.out k hob)⟩
      exact ⟨_, by rw [HL.out]; exact up_filter _ _, hmem, hret⟩
end Go.Proofs.Ytcjofakhefpfdaa
