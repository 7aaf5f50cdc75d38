/- A region that draws its order, whose operations and callees keep to a class of worlds: one walk of the text's order serves every order. Of no program. -/
import Derived.Test.YtnphncemghfkbaaLib
import Derived.Deep.QuietTactic
import Derived.BigQuiet
namespace Go.My
open Go
set_option linter.unusedVariables false

/-- a world of a class -/
structure WIn (D : World → Prop) where
  W : World
  h : D W
theorem wp_region_in {P : Program} {D : World → Prop} {id : Nat} {Q : Exit → Act → World → Prop} {a : Act} {w : World} {l : List Oper} (hm : P.follows .mixedOrders = true) (hB : Region.lexB .any l.toArray = true) (hD : D w.drew)
    (h : wpQuiet P l.toArray (fun w' => ∃ x : WIn D, w' = x.W) (fun a' => ∀ w', (∃ x : WIn D, w' = x.W) → Q .normal a' w') l a) : (Code.region id l.toArray true).wp P Q a w :=
  wp_region_quiet (C := fun w' => ∃ x : WIn D, w' = x.W) hm hB ⟨⟨_, hD⟩, rfl⟩ (by simpa using h)
/-- a callee that keeps to the class -/
theorem Calls.in_of {P : Program} {D : World → Prop} {f : FuncId} {args : Array Value} {v : Value} (x : WIn D) (h : ∀ W, D W → Calls P f args W fun e w' => e = .returned v ∧ D w') :
    Calls P f args x.W fun e w' => e = .returned v ∧ ∃ y : WIn D, w' = y.W :=
  (h x.W x.h).mono fun _ w' h => ⟨h.1, ⟨w', h.2⟩, rfl⟩
end Go.My
