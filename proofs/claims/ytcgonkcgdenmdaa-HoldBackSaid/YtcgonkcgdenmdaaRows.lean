/-
  No cell of these rows narrows 'for every input' (looked for: loops, veiled, ifaces, maps, wideKeys, modest, calm, conditions, laid).
  DERIVED. THE GIVEN ROWS OF THIS SEAT. 4 by the template 'for every input the law returns true; each argument reads behind the call as it read before'; 0 by the template 'total and deterministic' (their statements: YtcgonkcgdenmdaaTotals.lean).
  GIVEN WITH THE SEED: the statements are not yours to turn. If you find one false, say at which input.
  Laid BY PROGRAM, IN A SANDBOX (cutbox-rows.mjs): the forced cells as the released guide's own fill.sh prints them over the translation f65b234053d6722f… (all of the seat's roots in one cut). By AI agents, Wed Nov 11 2026. No macro, syntax, notation, axiom, sorry.
-/
import Derived.Test.YtcgonkcgdenmdaaChecked
import GoSem.Claim
import GoSem.ClaimJoined
import GoSem.ClaimMapViews
import Derived.JoinedTies
import Derived.KernelRfl
namespace Go.Proofs.Ytcgonkcgdenmdaa
/- THE CELL 'sum', in the pinned program and in every row, IS THE sha256 OF THE DUMP (.gsa) THAT YtcgonkcgdenmdaaProg.lean LOADS. Nothing in Lean hashes anything: it is a label: what it is worth is what the hold of that sum in a sandbox is worth. -/
noncomputable def Try.pinned : Pinned := { name := "ytcgonkcgdenmdaa", sum := "f65b234053d6722ff74a097c05f76ce09f2c856846b303c71d9dcadbca2bfb8a", checked := Try.checked }
namespace Rows
def none {H : Type} : Left H := { results := [], args := [] }

/-- 'countinghouselaw08.HoldAside': WHATEVER THE INPUT: true; the input reads as it did. -/
def holdAsideSpec : ChangeSpec := { name := "holdAside", fn := fun _ => fun
  | [d] => { results := [.lit (.bool true)], args := [d] }
  | _ => none }
def holdAsideRow : OpenClaim := { program := "ytcgonkcgdenmdaa", sum := "f65b234053d6722ff74a097c05f76ce09f2c856846b303c71d9dcadbca2bfb8a", func := "countinghouse/countinghouselaw08.HoldAside", spec := "holdAside", inPlace := ["math/bits.Add64", "maps.clone"], unfollowed := true, recurses := true, plainKeys := false, apart := false }
def HoldAsideSaid : Prop := holdAsideRow.holds Try.pinned (OpenSpec.ofChange holdAsideSpec)

/-- ITS FALSE NEIGHBOUR: 'it returns false'. Refute it at one input. -/
def holdAsideWrong : ChangeSpec := { name := "holdAside", fn := fun _ => fun
  | [d] => { results := [.lit (.bool false)], args := [d] }
  | _ => none }
def HoldAsideWrongFalsely : Prop := holdAsideRow.holds Try.pinned (OpenSpec.ofChange holdAsideWrong)

/-- 'countinghouselaw08.HoldBack': WHATEVER THE INPUT: true; the input reads as it did. -/
def holdBackSpec : ChangeSpec := { name := "holdBack", fn := fun _ => fun
  | [d1, d2] => { results := [.lit (.bool true)], args := [d1, d2] }
  | _ => none }
def holdBackRow : OpenClaim := { program := "ytcgonkcgdenmdaa", sum := "f65b234053d6722ff74a097c05f76ce09f2c856846b303c71d9dcadbca2bfb8a", func := "countinghouse/countinghouselaw08.HoldBack", spec := "holdBack", inPlace := ["math/bits.Add64", "maps.clone"], unfollowed := true, recurses := true, plainKeys := false, apart := false }
def HoldBackSaid : Prop := holdBackRow.holds Try.pinned (OpenSpec.ofChange holdBackSpec)

/-- ITS FALSE NEIGHBOUR: 'it returns false'. Refute it at one input. -/
def holdBackWrong : ChangeSpec := { name := "holdBack", fn := fun _ => fun
  | [d1, d2] => { results := [.lit (.bool false)], args := [d1, d2] }
  | _ => none }
def HoldBackWrongFalsely : Prop := holdBackRow.holds Try.pinned (OpenSpec.ofChange holdBackWrong)

/-- 'countinghouselaw08.HoldNil': WHATEVER THE INPUT: true; the input reads as it did. -/
def holdNilSpec : ChangeSpec := { name := "holdNil", fn := fun _ => fun
  | [d] => { results := [.lit (.bool true)], args := [d] }
  | _ => none }
def holdNilRow : OpenClaim := { program := "ytcgonkcgdenmdaa", sum := "f65b234053d6722ff74a097c05f76ce09f2c856846b303c71d9dcadbca2bfb8a", func := "countinghouse/countinghouselaw08.HoldNil", spec := "holdNil", inPlace := ["math/bits.Add64", "maps.clone"], unfollowed := true, recurses := true, plainKeys := false, apart := false }
def HoldNilSaid : Prop := holdNilRow.holds Try.pinned (OpenSpec.ofChange holdNilSpec)

/-- ITS FALSE NEIGHBOUR: 'it returns false'. Refute it at one input. -/
def holdNilWrong : ChangeSpec := { name := "holdNil", fn := fun _ => fun
  | [d] => { results := [.lit (.bool false)], args := [d] }
  | _ => none }
def HoldNilWrongFalsely : Prop := holdNilRow.holds Try.pinned (OpenSpec.ofChange holdNilWrong)

/-- 'countinghouselaw08.HoldNumbers': WHATEVER THE INPUT: true; the input reads as it did. -/
def holdNumbersSpec : ChangeSpec := { name := "holdNumbers", fn := fun _ => fun
  | [d1, d2, d3] => { results := [.lit (.bool true)], args := [d1, d2, d3] }
  | _ => none }
def holdNumbersRow : OpenClaim := { program := "ytcgonkcgdenmdaa", sum := "f65b234053d6722ff74a097c05f76ce09f2c856846b303c71d9dcadbca2bfb8a", func := "countinghouse/countinghouselaw08.HoldNumbers", spec := "holdNumbers", inPlace := ["math/bits.Add64", "maps.clone"], unfollowed := true, recurses := true, plainKeys := false, apart := false }
def HoldNumbersSaid : Prop := holdNumbersRow.holds Try.pinned (OpenSpec.ofChange holdNumbersSpec)

/-- ITS FALSE NEIGHBOUR: 'it returns false'. Refute it at one input. -/
def holdNumbersWrong : ChangeSpec := { name := "holdNumbers", fn := fun _ => fun
  | [d1, d2, d3] => { results := [.lit (.bool false)], args := [d1, d2, d3] }
  | _ => none }
def HoldNumbersWrongFalsely : Prop := holdNumbersRow.holds Try.pinned (OpenSpec.ofChange holdNumbersWrong)

/- THE SECOND FORM. 'bulk': how many values and letters a reading holds, each counted each time it is reached (what is shared counts as often as it is met; a slice's spare places count too). A statement '..UptoSaid' is the law's where the arguments, and the package variables that the reading takes, are together of bulk at most 1048576: NARROWER than '..Said'. Prove '..Said' where nothing that the law and all that it calls make is longer than what came in: it says more and counts as full. Else prove '..UptoSaid'. A law counts once. -/
mutual
def uptoBulk {H : Type} : DataW H → Nat
  | .lit (.string bytes) => bytes.length + 1
  | .lit _ => 1
  | .nil => 1
  | .ptr d => uptoBulk d + 1
  | .slice elems spare => uptoBulkAll elems + uptoBulkAll spare + 1
  | .agg parts => uptoBulkAll parts + 1
  | .iface _ d => uptoBulk d + 1
  | .map entries => uptoBulkEntries entries + 1
  | .held _ => 1
def uptoBulkAll {H : Type} : List (DataW H) → Nat
  | [] => 0
  | d :: r => uptoBulk d + uptoBulkAll r
def uptoBulkEntries {H : Type} : List (Lit × DataW H) → Nat
  | [] => 0
  | x :: r => uptoBulkEntry x + uptoBulkEntries r
def uptoBulkEntry {H : Type} : Lit × DataW H → Nat
  | (.string bytes, d) => bytes.length + uptoBulk d + 1
  | (_, d) => uptoBulk d + 1
 end
def uptoSmall : (H : Type) → List (DataW H) → Bool := fun _ ds => decide (uptoBulkAll ds ≤ 1048576)
def OpenSpec.upto (s : _root_.Go.ChangeSpec) : _root_.Go.OpenSpec := { _root_.Go.OpenSpec.ofChange s with cond := some uptoSmall }

/-- 'countinghouselaw08.HoldAside', WHERE WHAT IT READS IS OF BULK AT MOST 1048576: true; the input reads as it did. -/
def holdAsideUptoRow : OpenClaim := { program := "ytcgonkcgdenmdaa", sum := "f65b234053d6722ff74a097c05f76ce09f2c856846b303c71d9dcadbca2bfb8a", func := "countinghouse/countinghouselaw08.HoldAside", spec := "holdAside", inPlace := ["math/bits.Add64", "maps.clone"], unfollowed := true, recurses := true, plainKeys := false, apart := false, narrowed := true }
def HoldAsideUptoSaid : Prop := holdAsideUptoRow.holds Try.pinned (OpenSpec.upto holdAsideSpec)

/-- 'countinghouselaw08.HoldBack', WHERE WHAT IT READS IS OF BULK AT MOST 1048576: true; the input reads as it did. -/
def holdBackUptoRow : OpenClaim := { program := "ytcgonkcgdenmdaa", sum := "f65b234053d6722ff74a097c05f76ce09f2c856846b303c71d9dcadbca2bfb8a", func := "countinghouse/countinghouselaw08.HoldBack", spec := "holdBack", inPlace := ["math/bits.Add64", "maps.clone"], unfollowed := true, recurses := true, plainKeys := false, apart := false, narrowed := true }
def HoldBackUptoSaid : Prop := holdBackUptoRow.holds Try.pinned (OpenSpec.upto holdBackSpec)

/-- 'countinghouselaw08.HoldNil', WHERE WHAT IT READS IS OF BULK AT MOST 1048576: true; the input reads as it did. -/
def holdNilUptoRow : OpenClaim := { program := "ytcgonkcgdenmdaa", sum := "f65b234053d6722ff74a097c05f76ce09f2c856846b303c71d9dcadbca2bfb8a", func := "countinghouse/countinghouselaw08.HoldNil", spec := "holdNil", inPlace := ["math/bits.Add64", "maps.clone"], unfollowed := true, recurses := true, plainKeys := false, apart := false, narrowed := true }
def HoldNilUptoSaid : Prop := holdNilUptoRow.holds Try.pinned (OpenSpec.upto holdNilSpec)

/-- 'countinghouselaw08.HoldNumbers', WHERE WHAT IT READS IS OF BULK AT MOST 1048576: true; the input reads as it did. -/
def holdNumbersUptoRow : OpenClaim := { program := "ytcgonkcgdenmdaa", sum := "f65b234053d6722ff74a097c05f76ce09f2c856846b303c71d9dcadbca2bfb8a", func := "countinghouse/countinghouselaw08.HoldNumbers", spec := "holdNumbers", inPlace := ["math/bits.Add64", "maps.clone"], unfollowed := true, recurses := true, plainKeys := false, apart := false, narrowed := true }
def HoldNumbersUptoSaid : Prop := holdNumbersUptoRow.holds Try.pinned (OpenSpec.upto holdNumbersSpec)

end Rows
end Go.Proofs.Ytcgonkcgdenmdaa
