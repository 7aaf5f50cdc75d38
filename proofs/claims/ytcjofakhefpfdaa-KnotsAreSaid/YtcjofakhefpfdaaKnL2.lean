/- few: the first so many places, of each the first 20 ways. -/
import Derived.Test.YtcjofakhefpfdaaKnL0
import Derived.Test.YtcjofakhefpfdaaKnZ
import Derived.Test.YtcjofakhefpfdaaKnR
import Derived.Deep.DeepCutAuto
namespace Go.Proofs.Ytcjofakhefpfdaa
open Go.RowKit Go.My Go.Maps
set_option linter.unusedSimpArgs false
set_option linter.unusedVariables false
attribute [local go_sem ↓] Go.wp_at_zero Go.wp_at_succ

def fewG (G : List (List Int)) (m : Nat) : List (List Int) := (G.take m).map fun L => L.take 20
def cutV : Value → Value
  | .slice A n c => .slice A (min n 20) c
  | v => v
theorem fewG_len (G : List (List Int)) (m : Nat) : (fewG G m).length = min m G.length := by unfold fewG; rw [List.length_map, List.length_take]
theorem fewG_row {G : List (List Int)} {m : Nat} : ∀ L ∈ fewG G m, L.length ≤ 20 := fun L hL => by
  unfold fewG at hL
  obtain ⟨x, _, rfl⟩ := List.mem_map.1 hL
  rw [List.length_take]; omega
def FwR (w : World) (F : Nat → Prop) (G : List (List Int)) (m : Nat) (vs : List Value) (ov iv : Value) (wr : World) : Prop :=
  ∃ (i : Nat) (B : Option Addr) (d : Nat), ov = .slice B i d ∧ iv = .int .i64 (i : Int) ∧ i ≤ m ∧ i ≤ G.length ∧ Own wr 26 1 (.slice B i d) i ((vs.take i).map cutV) ∧ (∀ k, (Value.slice B i d).ownBlock = some k → w.heap.size ≤ k) ∧ Fr No w wr

def FewR (w : World) (F : Nat → Prop) (G : List (List Int)) (m : Nat) (e : Ending) (w' : World) : Prop := ∃ (B : Option Addr) (d : Nat), e = .returned (.slice B (fewG G m).length d) ∧ RdG w' (fun k => F k ∨ w.heap.size ≤ k) B (fewG G m) ∧ Fr No w w'
set_option maxRecDepth 100000 in
set_option maxHeartbeats 4000000 in
theorem few_any (w : World) (F : Nat → Prop) (A : Option Addr) (c m : Nat) (G : List (List Int)) (hg : RdG w F A G) (hG : G.length ≤ 9223372036854775807) (hm : m ≤ 1000) :
    Calls Try.prog 10 #[.slice A G.length c, .int .i64 (m : Int)] w (FewR w F G m) := by
  obtain ⟨vs, hr, hE⟩ := hg
  have HR := Lib.hid hr
  have HE := Lib.hid hE
  have hvl : vs.length = G.length := by have := hr.1; omega
  have HVL := Lib.hid hvl
  clear hr hE hvl
  have HEND : Hid (∀ (i : Nat) (B : Option Addr) (d : Nat) (wr : World), i = min m G.length → Own wr 26 1 (.slice B i d) i ((vs.take i).map cutV) → (∀ k, (Value.slice B i d).ownBlock = some k → w.heap.size ≤ k) → Fr No w wr → FewR w F G m (.returned (.slice B i d)) wr) := Lib.hid (fun i B d wr hi ho hn hf => by
    have hl : (fewG G m).length = i := by rw [fewG_len, hi]
    refine ⟨B, d, by rw [hl], ⟨(vs.take i).map cutV, ?_, fun j L hL => ?_⟩, hf⟩
    · rw [hl]; exact ho.rd.more fun k hk => .inr (hn k hk)
    · have hj : j < i := by
        have := (List.getElem?_eq_some_iff.1 hL).1
        omega
      unfold fewG at hL
      rw [List.getElem?_map, List.getElem?_take_of_lt (by omega)] at hL
      have hjG : j < G.length := by omega
      rw [List.getElem?_eq_getElem hjG] at hL
      have hL : some (G[j].take 20) = some L := hL
      injection hL with hL
      subst hL
      obtain ⟨A', c', h1, h2, h3, h4⟩ := HE.out j _ (List.getElem?_eq_getElem hjG)
      have hq : (G[j].take 20).length = min G[j].length 20 := by rw [List.length_take]; omega
      refine ⟨A', c', ?_, ?_, by rw [hq]; omega, h4⟩
      · rw [List.getElem?_map, List.getElem?_take_of_lt hj, h1, hq]; rfl
      · have h5 := h2.take (k := min G[j].length 20) (by omega)
        rw [hq]
        have h6 : is_ (G[j].take 20) = (is_ G[j]).take (min G[j].length 20 * 1) := by
          unfold is_
          rw [List.map_take, Nat.mul_one]
          by_cases h : G[j].length ≤ 20
          · rw [Nat.min_eq_left h, List.take_of_length_le (by rw [List.length_map]; omega), List.take_of_length_le (by rw [List.length_map]; omega)]
          · rw [Nat.min_eq_right (by omega)]
        rw [h6]
        exact (h5.no_ hf).more fun k hk => .inl hk)
  go_enter Try.func10, Try.ntmps10
  go_wp2
  go_loopw [5, 6] (fun ov iv wr => FwR w F G m vs ov iv wr) (fun ov _ _ => m - slen ov)
  case atStart => exact ⟨0, none, 0, rfl, rfl, Nat.zero_le _, Nat.zero_le _, Own.nil _ _ _, fun k hk => by simp [Value.ownBlock] at hk, Fr.refl _ _⟩
  case round =>
    obtain ⟨i, B, d, rfl, rfl, him, hiG, ho, hn, hf⟩ := hrel
    have HO := Lib.hid ho
    have HN := Lib.hid hn
    have HF := Lib.hid hf
    clear ho hn hf
    by_cases h1 : i < G.length
    · have h1I : (i : Int) < (G.length : Int) := by omega
      by_cases h2 : i < m
      · have h2I : (i : Int) < (m : Int) := by omega
        obtain ⟨A', c', e1, e2, e3, e4⟩ := HE.out i _ (List.getElem?_eq_getElem h1)
        obtain ⟨ad, u, rfl, _, hu, hcg⟩ := (HR.out.no_ HF.out).at_ (k := i) h1
        rw [e1] at hu
        injection hu with hu
        subst hu
        generalize G[i] = L at *
        obtain ⟨q, hq⟩ : ∃ q, q = min L.length 20 := ⟨_, rfl⟩
        have hqI : min (L.length : Int) 20 = (q : Int) := by omega
        have hq0 : (0 : Int) ≤ (q : Int) := by omega
        have hqc : (q : Int) ≤ (c' : Int) := by omega
        have hqc2 : q ≤ c' := by omega
        have hlX : Hid (i + 1 ≤ maxLen ∧ (i + 1) * 24 ≤ 140737488355328) := by
          refine ⟨?_, ?_⟩ <;> (try simp only [maxLen]) <;> omega
        obtain ⟨i1, hi1⟩ : ∃ i1, i1 = i + 1 := ⟨_, rfl⟩
        have hwi : wrap64 ((i : Int) + 1) = (i1 : Int) := by unfold wrap64; omega
        have HI1 := Lib.hid hi1
        have HQ := Lib.hid hq
        have HE1 := Lib.hid e1
        clear e1 e2 e3 e4 hi1 hq
        go_wp2
        go_region_law (refine step_app _ rfl (.tmp 18) (.tmp 30) 22 22 rfl elG (HO.out.alloc _) rfl (Src.of_new (cs := #[.slice A' q c']) (t := 26) wr.heap.size (heap_alloc_new wr _) Try.underlying22 rfl (by simp [Value.oneCell'])) rfl hlX.out.1 hlX.out.2 ?_; intro v3 w3 hown3 hf3 hn3; obtain ⟨A3, c3, rfl, -, -⟩ := hown3.form; have HO3 := Lib.hid hown3; have HF3 := Lib.hid hf3; have HN3 := Lib.hid hn3; clear hown3 hf3 hn3)
        all_goals
          (try simp only [List.getElem_toArray, List.getElem_cons_zero, List.getElem_cons_succ])
          go_wp2
          go_roundw
          case measure =>
            show m - (i + 1) < m - i
            omega
          case rel =>
            have hF1 : Fr No w w3 := (HF.out.alloc _).drew.trans' HF3.out fun k hk hlt => by have h9 := HN.out k hk; omega
            refine ⟨i1, A3, c3, by rw [HI1.out], by first | rw [hwi] | (rw [HI1.out]; rfl), by rw [HI1.out]; exact h2, by rw [HI1.out]; exact h1, ?_, fun k hk => ?_, hF1⟩
            · rw [HI1.out, List.take_add_one, HE1.out, List.map_append]
              have h9 := HO3.out
              rw [show (#[Value.slice A' q c'] : Array Value).toList = [Value.slice A' q c'] from rfl] at h9
              have e9 : (Option.toList (some (Value.slice A' L.length c'))).map cutV = [Value.slice A' q c'] := by
                rw [HQ.out]; rfl
              rw [e9]
              exact h9
            · rw [HI1.out] at hk
              rcases HN3.out with e | e
              · exact HN.out k (e ▸ hk)
              · rw [e] at hk
                injection hk with hk
                have h8 : (wr.alloc (Obj.cells #[Value.slice A' q c'] 26)).drew.heap.size = wr.heap.size + 1 := World.size_alloc ..
                have h9 := HF.out.size
                omega
      · have h2I : ¬ (i : Int) < (m : Int) := by omega
        go_wp2
        go_ret
        exact HEND.out i B d wr (by omega) HO.out HN.out HF.out
    · have h1I : ¬ (i : Int) < (G.length : Int) := by omega
      go_wp2
      go_ret
      exact HEND.out i B d wr (by omega) HO.out HN.out HF.out
end Go.Proofs.Ytcjofakhefpfdaa
