/- How the arguments of a law read: of no program. -/
import Derived.Test.YtjbeaoabhhaiiaaGreatLib
import Derived.ChangeOld
import Derived.ShutString
import Derived.SliceStrings
import Derived.Deep.Slices
import Derived.SizedLaws
namespace Go.My
open Go.RowKit Go.ChangeShapes Go.WideShapes
set_option linter.unusedSimpArgs false
set_option linter.unusedVariables false

/-- the block lies in the heap -/
def Lt (H : Nat) : Nat → Prop := fun k => k < H
theorem rd_lt {w : World} {F : Nat → Prop} {size n : Nat} {A : Option Addr} {xs : List Value} (h : Rd w F size A n xs) (hs : 0 < size) : Rd w (Lt w.heap.size) size A n xs := (h.lt hs).more fun _ hk => hk.2
theorem rd_fr_no {a b : World} {size n : Nat} {A : Option Addr} {xs : List Value} (h : Rd a (Lt a.heap.size) size A n xs) (hf : Fr No a b) : Rd b (Lt a.heap.size) size A n xs :=
  h.below (B := a.heap.size) hf.belowNo fun _ hk => hk

/-- strings as cells -/
def ss (l : List ByteArray) : List Value := l.map Value.string
theorem ss_length (l : List ByteArray) : (ss l).length = l.length := by simp [ss]
theorem ss_get (l : List ByteArray) (k : Nat) (h : k < l.length) : (ss l)[k]? = some (.string l[k]) := by simp [ss, h]
theorem ss_one (l : List ByteArray) : ∀ u ∈ ss l, u.oneCell' = true := by
  intro u hu
  simp only [ss, List.mem_map] at hu
  obtain ⟨b, _, rfl⟩ := hu
  rfl
theorem ss_append (l r : List ByteArray) : ss (l ++ r) = ss l ++ ss r := by simp [ss]

section
variable {H : Type} {enc : TypeId × Value → H} {P : Program} {w : World} {base : Nat} {spare : Nat → Bool} {held : Bool}

/-- bytes that came in -/
theorem open_bytes {t e : TypeId} {fuel : Nat} {cs : List Value} {x : DataW H × List MemPlace} (ht : P.underlying t = some (.slice e)) (he : P.underlying e = some (.int .u8)) (hc : P.cellsOf e = 1)
    (h : DataW.trod enc P w base spare held fuel t cs = some x) :
    ∃ (A : Option Addr) (c : Nat) (l : List UInt8), cs = [.slice A l.length c] ∧ Rd w (Lt w.heap.size) 1 A l.length (bs l) ∧ l.length ≤ c ∧ c ≤ maxLen := by
  rcases open_ints ht he hc h with ⟨hcs, _⟩ | ⟨a, n, c, zs, hcs, _, hl, hm, hz, _, hcell, hwz⟩
  · exact ⟨none, 0, [], hcs, Rd.none_, Nat.le_refl _, Nat.zero_le _⟩
  · have hzl : n ≤ zs.length := by rw [hz]; split <;> omega
    have hbs : bs ((zs.take n).map fun i => UInt8.ofNat i.toNat) = (zs.take n).map (Value.int .u8) := by
      simp only [bs, List.map_map]
      apply List.map_congr_left
      intro i hi
      have hw := bounds_u8 (hwz i (List.mem_of_mem_take hi))
      simp only [Function.comp, Value.int.injEq, true_and]
      have : (UInt8.ofNat i.toNat).toNat = i.toNat := by simp; omega
      rw [this]; omega
    have hlen : ((zs.take n).map fun i => UInt8.ofNat i.toNat).length = n := by simp; omega
    refine ⟨some a, c, (zs.take n).map fun i => UInt8.ofNat i.toNat, by rw [hlen]; exact hcs, ?_, by rw [hlen]; exact hl, hm⟩
    rw [hlen, hbs]
    have hrd : Rd w (fun _ => True) 1 (some a) n ((zs.take n).map (Value.int .u8)) := by
      refine ⟨by simp; omega, fun _ => ⟨a, rfl, trivial, fun j u hu => ?_⟩⟩
      rw [List.getElem?_map, List.getElem?_take] at hu
      split at hu
      · rename_i hj
        have hj' : j < zs.length := by omega
        rw [List.getElem?_eq_getElem hj'] at hu
        simp only [Option.map_some, Option.some.injEq] at hu
        subst hu
        have := hcell j hj'
        simpa [List.getD, hj'] using this
      · simp at hu
    exact rd_lt hrd (by omega)

/-- every number fits -/
def I64s (l : List Int) : Prop := ∀ x ∈ l, -9223372036854775808 ≤ x ∧ x ≤ 9223372036854775807
/-- int64 numbers that came in -/
theorem open_i64s {t e : TypeId} {fuel : Nat} {cs : List Value} {x : DataW H × List MemPlace} (ht : P.underlying t = some (.slice e)) (he : P.underlying e = some (.int .i64)) (hc : P.cellsOf e = 1)
    (h : DataW.trod enc P w base spare held fuel t cs = some x) :
    ∃ (A : Option Addr) (c : Nat) (l : List Int), cs = [.slice A l.length c] ∧ Rd w (Lt w.heap.size) 1 A l.length (is_ l) ∧ l.length ≤ c ∧ c ≤ maxLen ∧ I64s l := by
  rcases open_ints ht he hc h with ⟨hcs, _⟩ | ⟨a, n, c, zs, hcs, _, hl, hm, hz, _, hcell, hwz⟩
  · exact ⟨none, 0, [], hcs, Rd.none_, Nat.le_refl _, Nat.zero_le _, fun x hx => by simp at hx⟩
  · have hzl : n ≤ zs.length := by rw [hz]; split <;> omega
    have hlen : (zs.take n).length = n := by simp; omega
    refine ⟨some a, c, zs.take n, by rw [hlen]; exact hcs, ?_, by rw [hlen]; exact hl, hm, fun x hx => bounds_i64 (hwz x (List.mem_of_mem_take hx))⟩
    rw [hlen]
    have hrd : Rd w (fun _ => True) 1 (some a) n (is_ (zs.take n)) := by
      refine ⟨by rw [is_length]; omega, fun _ => ⟨a, rfl, trivial, fun j u hu => ?_⟩⟩
      simp only [is_] at hu
      rw [List.getElem?_map, List.getElem?_take] at hu
      split at hu
      · rename_i hj
        have hj' : j < zs.length := by omega
        rw [List.getElem?_eq_getElem hj'] at hu
        simp only [Option.map_some, Option.some.injEq] at hu
        subst hu
        have := hcell j hj'
        simpa [List.getD, hj'] using this
      · simp at hu
    exact rd_lt hrd (by omega)

/-- strings that came in -/
theorem open_strs {t e : TypeId} {fuel : Nat} {cs : List Value} {x : DataW H × List MemPlace} (ht : P.underlying t = some (.slice e)) (he : P.underlying e = some .string) (hc : P.cellsOf e = 1)
    (h : DataW.trod enc P w base spare held fuel t cs = some x) :
    ∃ (A : Option Addr) (c : Nat) (l : List ByteArray), cs = [.slice A l.length c] ∧ Rd w (Lt w.heap.size) 1 A l.length (ss l) ∧ l.length ≤ c ∧ c ≤ maxLen ∧ ∀ s ∈ l, s.size ≤ maxLen := by
  rcases open_strings ht he hc h with ⟨hcs, _⟩ | ⟨a, n, c, zs, hcs, _, hl, hm, hz, _, hcell, hwz⟩
  · exact ⟨none, 0, [], hcs, Rd.none_, Nat.le_refl _, Nat.zero_le _, fun x hx => by simp at hx⟩
  · have hzl : n ≤ zs.length := by rw [hz]; split <;> omega
    have hlen : (zs.take n).length = n := by simp; omega
    refine ⟨some a, c, zs.take n, by rw [hlen]; exact hcs, ?_, by rw [hlen]; exact hl, hm, fun x hx => hwz x (List.mem_of_mem_take hx)⟩
    rw [hlen]
    have hrd : Rd w (fun _ => True) 1 (some a) n (ss (zs.take n)) := by
      refine ⟨by rw [ss_length]; omega, fun _ => ⟨a, rfl, trivial, fun j u hu => ?_⟩⟩
      simp only [ss] at hu
      rw [List.getElem?_map, List.getElem?_take] at hu
      split at hu
      · rename_i hj
        have hj' : j < zs.length := by omega
        rw [List.getElem?_eq_getElem hj'] at hu
        simp only [Option.map_some, Option.some.injEq] at hu
        subst hu
        have := hcell j hj'
        simpa [List.getD, hj'] using this
      · simp at hu
    exact rd_lt hrd (by omega)

/-- the cells of a list of elements, each of 'size' cells -/
def Each {X : Type} (R : List Value → X → Prop) (size : Nat) (cells : List Value) (xs : List X) : Prop :=
  cells.length = xs.length * size ∧ ∀ (i : Nat) (x : X), xs[i]? = some x → R ((cells.drop (i * size)).take size) x

/-- a slice of whatever that came in -/
theorem open_each {X : Type} (R : List Value → X → Prop) {t e : TypeId} {size fuel : Nat} {cs : List Value} {x : DataW H × List MemPlace} (ht : P.underlying t = some (.slice e)) (hC : P.cellsOf e = size) (hpos : 0 < size)
    (hR : ∀ n cs x, DataW.trod enc P w base spare held n e cs = some x → ∃ X, R cs X) (h : DataW.trod enc P w base spare held fuel t cs = some x) :
    ∃ (A : Option Addr) (c : Nat) (cells : List Value) (xs : List X), cs = [.slice A xs.length c] ∧ Rd w (Lt w.heap.size) size A xs.length cells ∧ xs.length ≤ c ∧ c ≤ maxLen ∧ Each R size cells xs := by
  rcases Go.Deep.open_slice ht h with ⟨hcs, _⟩ | ⟨a, n, c, m, k, D, Pl, hcs, _, hl, hm, hmm, _, hi⟩
  · exact ⟨none, 0, [], [], hcs, Rd.none_, Nat.le_refl _, Nat.zero_le _, ⟨by simp, fun i x hx => by simp at hx⟩⟩
  · have hnm : n ≤ m := by rw [hmm]; split <;> omega
    rw [hC] at hi
    have main : ∀ n, n ≤ m → ∃ (cells : List Value) (xs : List X), xs.length = n ∧ cells.length = n * size ∧ (∀ j u, cells[j]? = some u → w.cell? (a.add j) = some u) ∧ Each R size cells xs := by
      intro n
      induction n with
      | zero => intro _; exact ⟨[], [], rfl, by simp, fun j u hu => by simp at hu, ⟨by simp, fun i x hx => by simp at hx⟩⟩
      | succ n ih =>
        intro hn
        obtain ⟨cells, xs, hxl, hcl, hcell, hel, heach⟩ := ih (by omega)
        obtain ⟨cs', hc', ht'⟩ := hi n (by omega)
        obtain ⟨_, hcl', hat⟩ := World.cells?_some hc'
        obtain ⟨X0, hX0⟩ := hR _ _ _ ht'
        refine ⟨cells ++ cs', xs ++ [X0], by simp [hxl], by rw [List.length_append, hcl, hcl', Nat.add_mul, Nat.one_mul], ?_, by rw [List.length_append, hcl, hcl', List.length_append, hxl]; simp [Nat.add_mul], ?_⟩
        · intro j u hu
          by_cases hj : j < cells.length
          · rw [List.getElem?_append_left hj] at hu
            exact hcell j u hu
          · rw [List.getElem?_append_right (by omega)] at hu
            have hjl : j - cells.length < cs'.length := (List.getElem?_eq_some_iff.1 hu).1
            have := hat (j - cells.length) (by omega)
            rw [hu] at this
            rw [add_of_add] at this
            rw [← this]
            congr 2
            omega
        · intro i x hx
          by_cases hil : i < xs.length
          · rw [List.getElem?_append_left hil] at hx
            have h1 := heach i x hx
            have hle : i * size + size ≤ cells.length := by
              rw [hcl, ← hxl, ← Nat.succ_mul]
              exact Nat.mul_le_mul_right _ hil
            rw [List.drop_append_of_le_length (by omega), List.take_append_of_le_length (by rw [List.length_drop]; omega)]
            exact h1
          · rw [List.getElem?_append_right (by omega)] at hx
            have hi0 : i - xs.length = 0 := by
              rcases Nat.eq_zero_or_pos (i - xs.length) with h | h
              · exact h
              · rw [List.getElem?_eq_none (by simp; omega)] at hx; cases hx
            rw [hi0] at hx
            simp only [List.getElem?_cons_zero, Option.some.injEq] at hx
            subst hx
            have hin : i = n := by omega
            subst hin
            rw [← hcl, List.drop_left, List.take_of_length_le (by omega)]
            exact hX0
    obtain ⟨cells, xs, hxl, hcl, hcell, heach⟩ := main n hnm
    subst hxl
    exact ⟨some a, c, cells, xs, hcs, rd_lt (F := fun _ => True) ⟨hcl, fun _ => ⟨a, rfl, trivial, hcell⟩⟩ hpos, hl, hm, heach⟩
end
end Go.My
