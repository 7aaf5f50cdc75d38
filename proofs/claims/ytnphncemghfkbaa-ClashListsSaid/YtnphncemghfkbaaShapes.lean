/- Contracts of package order: shapes. -/
import Derived.Test.YtnphncemghfkbaaTab
import Derived.Test.YtnphncemghfkbaaLg
import Derived.Test.YtnphncemghfkbaaInv
import Derived.Test.YtnphncemghfkbaaReg
import Derived.Laws.EntriesVeiled
namespace Go.Proofs.Ytnphncemghfkbaa
open Go.RowKit Go.My Go.Maps
set_option linter.unusedSimpArgs false
set_option linter.unusedVariables false

def fnV (f : FuncId) : Value := .func (.func f) #[] #[]
/-- the functions that look at the fields of a kind's orders -/
def shp (a b c d e f g : FuncId) : Array Value := #[fnV a, fnV b, fnV c, fnV d, fnV e, fnV f, fnV g]

/-- what a slot holds when so much is done -/
def shSlot (p : Nat) (E : Array Value) (g : Nat → Nat) (L : Nat → Bool) (k : Nat) : Value :=
  if k = 0 then .map none else if k = 1 then .pointer (some ⟨p, 0, none⟩) else if k < 9 then (if L (k + 5) then .pointer (some ⟨g (k - 2), 0, none⟩) else undef)
  else if k = 9 then .agg E else if k < 17 then (if L (k - 10) then .agg E else undef) else undef
def zs7 : Array Value := #[.nilFunc, .nilFunc, .nilFunc, .nilFunc, .nilFunc, .nilFunc, .nilFunc]
theorem tmp5 (d i : Nat) (h : d + 5 = i) (h7 : 7 ≤ i) : d = i - 7 + 2 := by omega
theorem tmp12 (d i : Nat) (h : d + 12 = i) (h7 : 14 ≤ i) : d = i - 14 + 2 := by omega
theorem tmp4 (d i : Nat) (h : d + 4 = i) (h7 : 14 ≤ i) : d = 10 + (i - 14) := by omega
theorem getD_set (l : Array Bool) (i n : Nat) (hi : i < l.size) : (l.setIfInBounds i true).getD n false = ((n == i) || l.getD n false) := by
  by_cases e : n = i
  · subst e
    simp [hi]
  · rw [getD_set_ne false (fun h => e h.symm)]
    simp [e]
theorem slot_other {p : Nat} {E : Array Value} {g g' : Nat → Nat} {L L' : Nat → Bool} {k : Nat} (h1 : ∀ n, n < 21 → (n + 10 = k ∧ k < 17) ∨ (n = k + 5 ∧ 2 ≤ k ∧ k < 9) → L' n = L n) (h2 : ∀ n, n + 2 = k → g' n = g n) : shSlot p E g' L' k = shSlot p E g L k := by
  unfold shSlot
  by_cases c0 : k = 0
  · rw [if_pos c0, if_pos c0]
  rw [if_neg c0, if_neg c0]
  by_cases c1 : k = 1
  · rw [if_pos c1, if_pos c1]
  rw [if_neg c1, if_neg c1]
  by_cases c9 : k < 9
  · rw [if_pos c9, if_pos c9, h1 (k + 5) (by omega) (.inr ⟨rfl, by omega, by omega⟩), h2 (k - 2) (by omega)]
  rw [if_neg c9, if_neg c9]
  by_cases d9 : k = 9
  · rw [if_pos d9, if_pos d9]
  rw [if_neg d9, if_neg d9]
  by_cases c17 : k < 17
  · rw [if_pos c17, if_pos c17, h1 (k - 10) (by omega) (.inl ⟨by omega, by omega⟩)]
  rw [if_neg c17, if_neg c17]
theorem put_at {a : Act} {d k : Nat} {v : Value} (hd : d < a.tmps.size) : (a.put (some d) v).tmps[k]? = if k = d then some v else a.tmps[k]? := by
  unfold Act.put
  simp only
  by_cases e : k = d
  · subst e
    simp [hd]
  · rw [if_neg e, Array.getElem?_setIfInBounds_ne (fun h => e h.symm)]
theorem eval_at {a : Act} {k : Nat} {v : Value} (h : a.tmps[k]? = some v) : a.eval (.tmp k) = v := by
  unfold Act.eval
  simp [h]
theorem oneF (c0 c1 c2 c3 c4 c5 c6 : FuncId) : (shp c0 c1 c2 c3 c4 c5 c6).all (·.oneCell') = true := by simp [shp, fnV, Value.oneCell']
def shFrame (p : Nat) (E : Array Value) (g : Nat → Nat) : Array Value :=
  #[.map none, .pointer (some ⟨p, 0, none⟩), .pointer (some ⟨g 0, 0, none⟩), .pointer (some ⟨g 1, 0, none⟩), .pointer (some ⟨g 2, 0, none⟩), .pointer (some ⟨g 3, 0, none⟩), .pointer (some ⟨g 4, 0, none⟩), .pointer (some ⟨g 5, 0, none⟩), .pointer (some ⟨g 6, 0, none⟩), .agg E,
    .agg E, .agg E, .agg E, .agg E, .agg E, .agg E, .agg E, undef, undef, undef, undef, undef, undef, undef, undef, undef, undef, undef, undef, undef, undef, undef, undef, undef, undef, undef, undef, undef, undef, undef, undef, undef]
end Go.Proofs.Ytnphncemghfkbaa
