/- clash.Begins, Alike, Rest, Meet. -/
import Derived.Test.YtlanhclgbkhdlaaGreatClashD
namespace Go.Proofs.YtlanhclgbkhdlaaGreat
open Go.RowKit Go.My Go.Maps Go.WideMaps
set_option linter.unusedSimpArgs false
set_option linter.unusedVariables false
attribute [local go_sem ↓] Go.wp_at_zero Go.wp_at_succ

/-- a list of orders that may be handed in: as it lies now -/
structure Ls (w : World) (F : Nat → Prop) (A : Option Addr) (c : Nat) (l : List Od) : Prop where
  ods : OdsS w w F A l
  n : l.length ≤ 1000000
  c : l.length ≤ c
  s : ∀ o ∈ l, o.legs.length ≤ 100000
theorem Ls.no {w w' : World} {F : Nat → Prop} {A : Option Addr} {c : Nat} {l : List Od} (h : Ls w F A c l) (hf : Fr No w w') : Ls w' F A c l := ⟨h.ods.now hf, h.n, h.c, h.s⟩
/-- handed back: orders of the call's own, and one word -/
def RetN2 (w : World) (l : List Od) (r : Bool) (e : Ending) (w' : World) : Prop := ∃ A c, e = .returned (.tuple #[.slice A l.length c, .bool r]) ∧ OwnN w.heap.size w' (.slice A l.length c) l ∧ Fr No w w' ∧ ∀ k, (Value.slice A l.length c).ownBlock = some k → w.heap.size ≤ k
theorem out_left (a b : List Od) : b.filter (leftB (idsO a)) = outO a b := (outO_eq a b).symm
end Go.Proofs.YtlanhclgbkhdlaaGreat
