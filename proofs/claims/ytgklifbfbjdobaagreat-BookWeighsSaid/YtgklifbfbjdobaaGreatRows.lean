/-
  No cell of these rows narrows 'for every input' (looked for: loops, veiled, ifaces, maps, wideKeys, modest, calm, conditions, laid).
  DERIVED. THE GIVEN ROWS OF THIS SEAT. 5 by the template 'for every input the law returns true; each argument reads behind the call as it read before'; 0 by the template 'total and deterministic' (their statements: YtgklifbfbjdobaaGreatTotals.lean).
  GIVEN WITH THE SEED: the statements are not yours to turn. If you find one false, say at which input.
  Laid BY PROGRAM, IN A SANDBOX (cutbox-rows.mjs): the forced cells as the released guide's own fill.sh prints them over the translation 007107b4b87ed7bb… (all of the seat's roots in one cut). By AI agents, Wed Nov 11 2026. No macro, syntax, notation, axiom, sorry.
-/
import Derived.Test.YtgklifbfbjdobaaGreatChecked
import GoSem.Claim
import GoSem.ClaimJoined
import GoSem.ClaimMapViews
import Derived.JoinedTies
import Derived.KernelRfl
namespace Go.Proofs.YtgklifbfbjdobaaGreat
/- THE CELL 'sum', in the pinned program and in every row, IS THE sha256 OF THE DUMP (.gsa) THAT YtgklifbfbjdobaaGreatProg.lean LOADS. Nothing in Lean hashes anything: it is a label: what it is worth is what the hold of that sum in a sandbox is worth. -/
noncomputable def Tryz.pinned : Pinned := { name := "ytgklifbfbjdobaagreat", sum := "007107b4b87ed7bb3556092fbbae5e6b6509163a7ec93d7d453899cbab61cb3c", checked := Tryz.checked }
namespace Rows
def none {H : Type} : Left H := { results := [], args := [] }

/-- 'countinghouselaw09.BookWeighs': WHATEVER THE INPUT: true; the input reads as it did. -/
def bookWeighsSpec : ChangeSpec := { name := "bookWeighs", fn := fun _ => fun
  | [d] => { results := [.lit (.bool true)], args := [d] }
  | _ => none }
def bookWeighsRow : OpenClaim := { program := "ytgklifbfbjdobaagreat", sum := "007107b4b87ed7bb3556092fbbae5e6b6509163a7ec93d7d453899cbab61cb3c", func := "countinghouse/countinghouselaw09.BookWeighs", spec := "bookWeighs", inPlace := ["math/bits.Add64", "maps.clone"], unfollowed := true, recurses := true, plainKeys := false, apart := false }
def BookWeighsSaid : Prop := bookWeighsRow.holds Tryz.pinned (OpenSpec.ofChange bookWeighsSpec)

/-- ITS FALSE NEIGHBOUR: 'it returns false'. Refute it at one input. -/
def bookWeighsWrong : ChangeSpec := { name := "bookWeighs", fn := fun _ => fun
  | [d] => { results := [.lit (.bool false)], args := [d] }
  | _ => none }
def BookWeighsWrongFalsely : Prop := bookWeighsRow.holds Tryz.pinned (OpenSpec.ofChange bookWeighsWrong)

/-- 'countinghouselaw09.BookClosed': WHATEVER THE INPUT: true; the input reads as it did. -/
def bookClosedSpec : ChangeSpec := { name := "bookClosed", fn := fun _ => fun
  | [d1, d2, d3] => { results := [.lit (.bool true)], args := [d1, d2, d3] }
  | _ => none }
def bookClosedRow : OpenClaim := { program := "ytgklifbfbjdobaagreat", sum := "007107b4b87ed7bb3556092fbbae5e6b6509163a7ec93d7d453899cbab61cb3c", func := "countinghouse/countinghouselaw09.BookClosed", spec := "bookClosed", inPlace := ["math/bits.Add64", "maps.clone"], unfollowed := true, recurses := true, plainKeys := false, apart := false }
def BookClosedSaid : Prop := bookClosedRow.holds Tryz.pinned (OpenSpec.ofChange bookClosedSpec)

/-- ITS FALSE NEIGHBOUR: 'it returns false'. Refute it at one input. -/
def bookClosedWrong : ChangeSpec := { name := "bookClosed", fn := fun _ => fun
  | [d1, d2, d3] => { results := [.lit (.bool false)], args := [d1, d2, d3] }
  | _ => none }
def BookClosedWrongFalsely : Prop := bookClosedRow.holds Tryz.pinned (OpenSpec.ofChange bookClosedWrong)

/-- 'countinghouselaw09.BookCopies': WHATEVER THE INPUT: true; the input reads as it did. -/
def bookCopiesSpec : ChangeSpec := { name := "bookCopies", fn := fun _ => fun
  | [d1, d2] => { results := [.lit (.bool true)], args := [d1, d2] }
  | _ => none }
def bookCopiesRow : OpenClaim := { program := "ytgklifbfbjdobaagreat", sum := "007107b4b87ed7bb3556092fbbae5e6b6509163a7ec93d7d453899cbab61cb3c", func := "countinghouse/countinghouselaw09.BookCopies", spec := "bookCopies", inPlace := ["math/bits.Add64", "maps.clone"], unfollowed := true, recurses := true, plainKeys := false, apart := false }
def BookCopiesSaid : Prop := bookCopiesRow.holds Tryz.pinned (OpenSpec.ofChange bookCopiesSpec)

/-- ITS FALSE NEIGHBOUR: 'it returns false'. Refute it at one input. -/
def bookCopiesWrong : ChangeSpec := { name := "bookCopies", fn := fun _ => fun
  | [d1, d2] => { results := [.lit (.bool false)], args := [d1, d2] }
  | _ => none }
def BookCopiesWrongFalsely : Prop := bookCopiesRow.holds Tryz.pinned (OpenSpec.ofChange bookCopiesWrong)

/-- 'countinghouselaw09.BookAsks': WHATEVER THE INPUT: true; the input reads as it did. -/
def bookAsksSpec : ChangeSpec := { name := "bookAsks", fn := fun _ => fun
  | [d1, d2] => { results := [.lit (.bool true)], args := [d1, d2] }
  | _ => none }
def bookAsksRow : OpenClaim := { program := "ytgklifbfbjdobaagreat", sum := "007107b4b87ed7bb3556092fbbae5e6b6509163a7ec93d7d453899cbab61cb3c", func := "countinghouse/countinghouselaw09.BookAsks", spec := "bookAsks", inPlace := ["math/bits.Add64", "maps.clone"], unfollowed := true, recurses := true, plainKeys := false, apart := false }
def BookAsksSaid : Prop := bookAsksRow.holds Tryz.pinned (OpenSpec.ofChange bookAsksSpec)

/-- ITS FALSE NEIGHBOUR: 'it returns false'. Refute it at one input. -/
def bookAsksWrong : ChangeSpec := { name := "bookAsks", fn := fun _ => fun
  | [d1, d2] => { results := [.lit (.bool false)], args := [d1, d2] }
  | _ => none }
def BookAsksWrongFalsely : Prop := bookAsksRow.holds Tryz.pinned (OpenSpec.ofChange bookAsksWrong)

/-- 'countinghouselaw09.BookHolds': WHATEVER THE INPUT: true; the input reads as it did. -/
def bookHoldsSpec : ChangeSpec := { name := "bookHolds", fn := fun _ => fun
  | [d1, d2, d3] => { results := [.lit (.bool true)], args := [d1, d2, d3] }
  | _ => none }
def bookHoldsRow : OpenClaim := { program := "ytgklifbfbjdobaagreat", sum := "007107b4b87ed7bb3556092fbbae5e6b6509163a7ec93d7d453899cbab61cb3c", func := "countinghouse/countinghouselaw09.BookHolds", spec := "bookHolds", inPlace := ["math/bits.Add64", "maps.clone"], unfollowed := true, recurses := true, plainKeys := false, apart := false }
def BookHoldsSaid : Prop := bookHoldsRow.holds Tryz.pinned (OpenSpec.ofChange bookHoldsSpec)

/-- ITS FALSE NEIGHBOUR: 'it returns false'. Refute it at one input. -/
def bookHoldsWrong : ChangeSpec := { name := "bookHolds", fn := fun _ => fun
  | [d1, d2, d3] => { results := [.lit (.bool false)], args := [d1, d2, d3] }
  | _ => none }
def BookHoldsWrongFalsely : Prop := bookHoldsRow.holds Tryz.pinned (OpenSpec.ofChange bookHoldsWrong)

/- THE SECOND FORM. 'bulk': how many values and letters a reading holds, each counted each time it is reached (what is shared counts as often as it is met; a slice's spare places count too). A statement '..UptoSaid' is the law's where the arguments, and the package variables that the reading takes, are together of bulk at most 1048576: NARROWER than '..Said'. Prove '..Said' where nothing that the law and all that it calls make is longer than what came in: it says more and counts as full. Else prove '..UptoSaid'. A law counts once. -/
mutual
def uptoBulk {H : Type} : DataW H → Nat
  | .lit (.string bytes) => bytes.length + 1
  | .lit _ => 1
  | .nil => 1
  | .ptr d => uptoBulk d + 1
  | .slice elems spare => uptoBulkAll elems + uptoBulkAll spare + 1
  | .agg parts => uptoBulkAll parts + 1
  | .iface _ d => uptoBulk d + 1
  | .map entries => uptoBulkEntries entries + 1
  | .held _ => 1
def uptoBulkAll {H : Type} : List (DataW H) → Nat
  | [] => 0
  | d :: r => uptoBulk d + uptoBulkAll r
def uptoBulkEntries {H : Type} : List (Lit × DataW H) → Nat
  | [] => 0
  | x :: r => uptoBulkEntry x + uptoBulkEntries r
def uptoBulkEntry {H : Type} : Lit × DataW H → Nat
  | (.string bytes, d) => bytes.length + uptoBulk d + 1
  | (_, d) => uptoBulk d + 1
 end
def uptoSmall : (H : Type) → List (DataW H) → Bool := fun _ ds => decide (uptoBulkAll ds ≤ 1048576)
def OpenSpec.upto (s : _root_.Go.ChangeSpec) : _root_.Go.OpenSpec := { _root_.Go.OpenSpec.ofChange s with cond := some uptoSmall }

/-- 'countinghouselaw09.BookWeighs', WHERE WHAT IT READS IS OF BULK AT MOST 1048576: true; the input reads as it did. -/
def bookWeighsUptoRow : OpenClaim := { program := "ytgklifbfbjdobaagreat", sum := "007107b4b87ed7bb3556092fbbae5e6b6509163a7ec93d7d453899cbab61cb3c", func := "countinghouse/countinghouselaw09.BookWeighs", spec := "bookWeighs", inPlace := ["math/bits.Add64", "maps.clone"], unfollowed := true, recurses := true, plainKeys := false, apart := false, narrowed := true }
def BookWeighsUptoSaid : Prop := bookWeighsUptoRow.holds Tryz.pinned (OpenSpec.upto bookWeighsSpec)

/-- 'countinghouselaw09.BookClosed', WHERE WHAT IT READS IS OF BULK AT MOST 1048576: true; the input reads as it did. -/
def bookClosedUptoRow : OpenClaim := { program := "ytgklifbfbjdobaagreat", sum := "007107b4b87ed7bb3556092fbbae5e6b6509163a7ec93d7d453899cbab61cb3c", func := "countinghouse/countinghouselaw09.BookClosed", spec := "bookClosed", inPlace := ["math/bits.Add64", "maps.clone"], unfollowed := true, recurses := true, plainKeys := false, apart := false, narrowed := true }
def BookClosedUptoSaid : Prop := bookClosedUptoRow.holds Tryz.pinned (OpenSpec.upto bookClosedSpec)

/-- 'countinghouselaw09.BookCopies', WHERE WHAT IT READS IS OF BULK AT MOST 1048576: true; the input reads as it did. -/
def bookCopiesUptoRow : OpenClaim := { program := "ytgklifbfbjdobaagreat", sum := "007107b4b87ed7bb3556092fbbae5e6b6509163a7ec93d7d453899cbab61cb3c", func := "countinghouse/countinghouselaw09.BookCopies", spec := "bookCopies", inPlace := ["math/bits.Add64", "maps.clone"], unfollowed := true, recurses := true, plainKeys := false, apart := false, narrowed := true }
def BookCopiesUptoSaid : Prop := bookCopiesUptoRow.holds Tryz.pinned (OpenSpec.upto bookCopiesSpec)

/-- 'countinghouselaw09.BookAsks', WHERE WHAT IT READS IS OF BULK AT MOST 1048576: true; the input reads as it did. -/
def bookAsksUptoRow : OpenClaim := { program := "ytgklifbfbjdobaagreat", sum := "007107b4b87ed7bb3556092fbbae5e6b6509163a7ec93d7d453899cbab61cb3c", func := "countinghouse/countinghouselaw09.BookAsks", spec := "bookAsks", inPlace := ["math/bits.Add64", "maps.clone"], unfollowed := true, recurses := true, plainKeys := false, apart := false, narrowed := true }
def BookAsksUptoSaid : Prop := bookAsksUptoRow.holds Tryz.pinned (OpenSpec.upto bookAsksSpec)

/-- 'countinghouselaw09.BookHolds', WHERE WHAT IT READS IS OF BULK AT MOST 1048576: true; the input reads as it did. -/
def bookHoldsUptoRow : OpenClaim := { program := "ytgklifbfbjdobaagreat", sum := "007107b4b87ed7bb3556092fbbae5e6b6509163a7ec93d7d453899cbab61cb3c", func := "countinghouse/countinghouselaw09.BookHolds", spec := "bookHolds", inPlace := ["math/bits.Add64", "maps.clone"], unfollowed := true, recurses := true, plainKeys := false, apart := false, narrowed := true }
def BookHoldsUptoSaid : Prop := bookHoldsUptoRow.holds Tryz.pinned (OpenSpec.upto bookHoldsSpec)

end Rows
end Go.Proofs.YtgklifbfbjdobaaGreat
