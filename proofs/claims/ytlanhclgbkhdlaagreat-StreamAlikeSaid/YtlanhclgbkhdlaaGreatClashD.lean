/- clash.begins. -/
import Derived.Test.YtlanhclgbkhdlaaGreatClashC
namespace Go.Proofs.YtlanhclgbkhdlaaGreat
open Go.RowKit Go.My Go.Maps Go.WideMaps
set_option linter.unusedSimpArgs false
set_option linter.unusedVariables false
attribute [local go_sem ↓] Go.wp_at_zero Go.wp_at_succ

/-- a row of the call's own that holds marked orders -/
def OwnM (B : Nat) (w : World) (v : Value) (l : List Od) : Prop := ∃ cells, Own w 97 11 v l.length cells ∧ Each (MkR w (New B w v.ownBlock)) 11 cells l
theorem MkR.to {w w' : World} {F G S : Nat → Prop} {cs : List Value} {x : Od} (h : MkR w F cs x) (hf : Fr S w w') (hn : ∀ k, F k → k < w.heap.size → ¬ S k) (hG : ∀ k, F k → G k) : MkR w' G cs x := by
  obtain ⟨A, n, c, C, e, h1, h2, h3, h4⟩ := h
  exact ⟨A, n, c, C, e, h1, h2, (h3.fr (by omega) hf hn).more hG, h4⟩
theorem OwnM.nil (B : Nat) (w : World) : OwnM B w (.slice none 0 0) [] := ⟨[], Own.nil _ _ _, ⟨rfl, fun i x hx => by simp at hx⟩⟩
theorem OwnM.form {B : Nat} {w : World} {v : Value} {l : List Od} (h : OwnM B w v l) : ∃ A c, v = .slice A l.length c ∧ l.length ≤ c ∧ c ≤ maxLen := by
  obtain ⟨cells, ho, _⟩ := h
  exact ho.form
theorem OwnM.no {B : Nat} {w w' : World} {v : Value} {l : List Od} (h : OwnM B w v l) (hf : Fr No w w') : OwnM B w' v l := by
  obtain ⟨cells, ho, hE⟩ := h
  exact ⟨cells, ho.fr hf (fun _ _ h => h), each_imp hE fun cs o h => h.to hf (fun _ _ _ h => h) fun k hk => ⟨hk.1, Nat.lt_of_lt_of_le hk.2.1 hf.size, hk.2.2⟩⟩
theorem OwnM.mks {B : Nat} {w : World} {A : Option Addr} {m c : Nat} {l : List Od} (h : OwnM B w (.slice A m c) l) : MksS w w (fun k => (Value.slice A m c).ownBlock = some k) (New B w (Value.slice A m c).ownBlock) A l := by
  obtain ⟨cells, ho, hE⟩ := h
  exact ⟨cells, ho.rd, hE⟩
theorem eachM_put {B : Nat} {w wa w1 w2 w3 : World} {g g1 : Option Nat} {cells cs : List Value} {l : List Od} {o : Od} (hB : B ≤ wa.heap.size) (hE : Each (MkR w (New B w g)) 11 cells l) (hg : ∀ k, g = some k → k < w.heap.size)
    (h1 : Fr No w wa) (h2 : Fr No wa w1) (hL : MkR w1 (New wa.heap.size w1 none) cs o) (h3 : Fr No w1 w2) (h4 : Fr (AtO g) w2 w3) (hn : g1 = g ∨ g1 = some w2.heap.size) :
    Each (MkR w3 (New B w3 g1)) 11 (cells ++ cs) (l ++ [o]) := by
  have s1 := h1.size
  have s2 := h2.size
  have s3 := h3.size
  have s4 := h4.size
  have e1 : ∀ k, New B w g k → New B w3 g1 k := fun k hk => by
    obtain ⟨k1, k2, k3⟩ := hk
    refine ⟨k1, by omega, fun e => ?_⟩
    rcases hn with rfl | rfl
    · exact k3 e
    · simp only [Option.some.injEq] at e
      omega
  have e2 : ∀ k, New wa.heap.size w1 none k → New B w3 g1 k := fun k hk => by
    obtain ⟨k1, k2, k3⟩ := hk
    refine ⟨by omega, by omega, fun e => ?_⟩
    rcases hn with rfl | rfl
    · have := hg k e
      omega
    · simp only [Option.some.injEq] at e
      omega
  have hE1 : Each (MkR w3 (New B w3 g1)) 11 cells l := each_imp hE fun cs o h => (h.to ((h1.trans h2).trans h3) (fun _ _ _ h => h) (fun _ h => h)).to h4 (fun k hk _ e => hk.2.2 e) e1
  have hlen : cs.length = 11 := by
    obtain ⟨A, n, c, C, e, rfl, _⟩ := hL
    rfl
  refine each_snoc hE1 (by omega) hlen ((hL.to h3 (fun _ _ _ h => h) (fun _ h => h)).to h4 (fun k hk _ e => ?_) e2)
  have := hg k e
  have := hk.1
  omega
theorem left_eq (a : List Od) (o : Od) : leftB (idsO a) o = !decide (o.id ∈ idsO a) := by unfold leftB; rw [posF_isSome]
def BgRel (w : World) (a b : List Od) (lv iv : Value) (wr : World) : Prop := ∃ k : Nat, k ≤ b.length ∧ iv = .int .i64 k ∧ OwnM w.heap.size wr lv (b.take k) ∧ Fr No w wr ∧ Newer w.heap.size none lv.ownBlock ∧ ∀ j o, j < k → b[j]? = some o → okAt a (b.take j) o = true
end Go.Proofs.YtlanhclgbkhdlaaGreat
