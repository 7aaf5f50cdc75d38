/-
  No cell of these rows narrows 'for every input' (looked for: loops, veiled, ifaces, maps, wideKeys, modest, calm, conditions, laid).
  DERIVED. THE GIVEN ROWS OF THIS SEAT. 6 by the template 'for every input the law returns true; each argument reads behind the call as it read before'; 0 by the template 'total and deterministic' (their statements: YtcpgamidimfflaaGreatTotals.lean).
  GIVEN WITH THE SEED: the statements are not yours to turn. If you find one false, say at which input.
  Laid BY PROGRAM, IN A SANDBOX (cutbox-rows.mjs): the forced cells as the released guide's own fill.sh prints them over the translation c3fa83ca62e88791… (all of the seat's roots in one cut). By AI agents, Wed Nov 11 2026. No macro, syntax, notation, axiom, sorry.
-/
import Derived.Test.YtcpgamidimfflaaGreatChecked
import GoSem.Claim
import GoSem.ClaimJoined
import GoSem.ClaimMapViews
import Derived.JoinedTies
import Derived.KernelRfl
namespace Go.Proofs.YtcpgamidimfflaaGreat
/- THE CELL 'sum', in the pinned program and in every row, IS THE sha256 OF THE DUMP (.gsa) THAT YtcpgamidimfflaaGreatProg.lean LOADS. Nothing in Lean hashes anything: it is a label: what it is worth is what the hold of that sum in a sandbox is worth. -/
noncomputable def Tryz.pinned : Pinned := { name := "ytcpgamidimfflaagreat", sum := "c3fa83ca62e88791f028edb31a78f2dc7b888a82eedc453f9f55d513de8bc47b", checked := Tryz.checked }
namespace Rows
def none {H : Type} : Left H := { results := [], args := [] }

/-- 'countinghouselaw14.RunnerPlays': WHATEVER THE INPUT: true; the input reads as it did. -/
def runnerPlaysSpec : ChangeSpec := { name := "runnerPlays", fn := fun _ => fun
  | [d] => { results := [.lit (.bool true)], args := [d] }
  | _ => none }
def runnerPlaysRow : OpenClaim := { program := "ytcpgamidimfflaagreat", sum := "c3fa83ca62e88791f028edb31a78f2dc7b888a82eedc453f9f55d513de8bc47b", func := "countinghouse/countinghouselaw14.RunnerPlays", spec := "runnerPlays", inPlace := ["math/bits.Add64", "maps.clone"], unfollowed := true, recurses := true, plainKeys := false, apart := false }
def RunnerPlaysSaid : Prop := runnerPlaysRow.holds Tryz.pinned (OpenSpec.ofChange runnerPlaysSpec)

/-- ITS FALSE NEIGHBOUR: 'it returns false'. Refute it at one input. -/
def runnerPlaysWrong : ChangeSpec := { name := "runnerPlays", fn := fun _ => fun
  | [d] => { results := [.lit (.bool false)], args := [d] }
  | _ => none }
def RunnerPlaysWrongFalsely : Prop := runnerPlaysRow.holds Tryz.pinned (OpenSpec.ofChange runnerPlaysWrong)

/-- 'countinghouselaw14.RunnerAlike': WHATEVER THE INPUT: true; the input reads as it did. -/
def runnerAlikeSpec : ChangeSpec := { name := "runnerAlike", fn := fun _ => fun
  | [d1, d2, d3] => { results := [.lit (.bool true)], args := [d1, d2, d3] }
  | _ => none }
def runnerAlikeRow : OpenClaim := { program := "ytcpgamidimfflaagreat", sum := "c3fa83ca62e88791f028edb31a78f2dc7b888a82eedc453f9f55d513de8bc47b", func := "countinghouse/countinghouselaw14.RunnerAlike", spec := "runnerAlike", inPlace := ["math/bits.Add64", "maps.clone"], unfollowed := true, recurses := true, plainKeys := false, apart := false }
def RunnerAlikeSaid : Prop := runnerAlikeRow.holds Tryz.pinned (OpenSpec.ofChange runnerAlikeSpec)

/-- ITS FALSE NEIGHBOUR: 'it returns false'. Refute it at one input. -/
def runnerAlikeWrong : ChangeSpec := { name := "runnerAlike", fn := fun _ => fun
  | [d1, d2, d3] => { results := [.lit (.bool false)], args := [d1, d2, d3] }
  | _ => none }
def RunnerAlikeWrongFalsely : Prop := runnerAlikeRow.holds Tryz.pinned (OpenSpec.ofChange runnerAlikeWrong)

/-- 'countinghouselaw14.RunnerOnce': WHATEVER THE INPUT: true; the input reads as it did. -/
def runnerOnceSpec : ChangeSpec := { name := "runnerOnce", fn := fun _ => fun
  | [d] => { results := [.lit (.bool true)], args := [d] }
  | _ => none }
def runnerOnceRow : OpenClaim := { program := "ytcpgamidimfflaagreat", sum := "c3fa83ca62e88791f028edb31a78f2dc7b888a82eedc453f9f55d513de8bc47b", func := "countinghouse/countinghouselaw14.RunnerOnce", spec := "runnerOnce", inPlace := ["math/bits.Add64", "maps.clone"], unfollowed := true, recurses := true, plainKeys := false, apart := false }
def RunnerOnceSaid : Prop := runnerOnceRow.holds Tryz.pinned (OpenSpec.ofChange runnerOnceSpec)

/-- ITS FALSE NEIGHBOUR: 'it returns false'. Refute it at one input. -/
def runnerOnceWrong : ChangeSpec := { name := "runnerOnce", fn := fun _ => fun
  | [d] => { results := [.lit (.bool false)], args := [d] }
  | _ => none }
def RunnerOnceWrongFalsely : Prop := runnerOnceRow.holds Tryz.pinned (OpenSpec.ofChange runnerOnceWrong)

/-- 'countinghouselaw14.RunnerNil': WHATEVER THE INPUT: true; the input reads as it did. -/
def runnerNilSpec : ChangeSpec := { name := "runnerNil", fn := fun _ => fun
  | [d1, d2] => { results := [.lit (.bool true)], args := [d1, d2] }
  | _ => none }
def runnerNilRow : OpenClaim := { program := "ytcpgamidimfflaagreat", sum := "c3fa83ca62e88791f028edb31a78f2dc7b888a82eedc453f9f55d513de8bc47b", func := "countinghouse/countinghouselaw14.RunnerNil", spec := "runnerNil", inPlace := ["math/bits.Add64", "maps.clone"], unfollowed := true, recurses := true, plainKeys := false, apart := false }
def RunnerNilSaid : Prop := runnerNilRow.holds Tryz.pinned (OpenSpec.ofChange runnerNilSpec)

/-- ITS FALSE NEIGHBOUR: 'it returns false'. Refute it at one input. -/
def runnerNilWrong : ChangeSpec := { name := "runnerNil", fn := fun _ => fun
  | [d1, d2] => { results := [.lit (.bool false)], args := [d1, d2] }
  | _ => none }
def RunnerNilWrongFalsely : Prop := runnerNilRow.holds Tryz.pinned (OpenSpec.ofChange runnerNilWrong)

/-- 'countinghouselaw14.RunnerRow': WHATEVER THE INPUT: true; the input reads as it did. -/
def runnerRowSpec : ChangeSpec := { name := "runnerRow", fn := fun _ => fun
  | [d1, d2] => { results := [.lit (.bool true)], args := [d1, d2] }
  | _ => none }
def runnerRowRow : OpenClaim := { program := "ytcpgamidimfflaagreat", sum := "c3fa83ca62e88791f028edb31a78f2dc7b888a82eedc453f9f55d513de8bc47b", func := "countinghouse/countinghouselaw14.RunnerRow", spec := "runnerRow", inPlace := ["math/bits.Add64", "maps.clone"], unfollowed := true, recurses := true, plainKeys := false, apart := false }
def RunnerRowSaid : Prop := runnerRowRow.holds Tryz.pinned (OpenSpec.ofChange runnerRowSpec)

/-- ITS FALSE NEIGHBOUR: 'it returns false'. Refute it at one input. -/
def runnerRowWrong : ChangeSpec := { name := "runnerRow", fn := fun _ => fun
  | [d1, d2] => { results := [.lit (.bool false)], args := [d1, d2] }
  | _ => none }
def RunnerRowWrongFalsely : Prop := runnerRowRow.holds Tryz.pinned (OpenSpec.ofChange runnerRowWrong)

/-- 'countinghouselaw14.RunnerOrder': WHATEVER THE INPUT: true; the input reads as it did. -/
def runnerOrderSpec : ChangeSpec := { name := "runnerOrder", fn := fun _ => fun
  | [d1, d2, d3] => { results := [.lit (.bool true)], args := [d1, d2, d3] }
  | _ => none }
def runnerOrderRow : OpenClaim := { program := "ytcpgamidimfflaagreat", sum := "c3fa83ca62e88791f028edb31a78f2dc7b888a82eedc453f9f55d513de8bc47b", func := "countinghouse/countinghouselaw14.RunnerOrder", spec := "runnerOrder", inPlace := ["math/bits.Add64", "maps.clone"], unfollowed := true, recurses := true, plainKeys := false, apart := false }
def RunnerOrderSaid : Prop := runnerOrderRow.holds Tryz.pinned (OpenSpec.ofChange runnerOrderSpec)

/-- ITS FALSE NEIGHBOUR: 'it returns false'. Refute it at one input. -/
def runnerOrderWrong : ChangeSpec := { name := "runnerOrder", fn := fun _ => fun
  | [d1, d2, d3] => { results := [.lit (.bool false)], args := [d1, d2, d3] }
  | _ => none }
def RunnerOrderWrongFalsely : Prop := runnerOrderRow.holds Tryz.pinned (OpenSpec.ofChange runnerOrderWrong)

/- THE SECOND FORM. 'bulk': how many values and letters a reading holds, each counted each time it is reached (what is shared counts as often as it is met; a slice's spare places count too). A statement '..UptoSaid' is the law's where the arguments, and the package variables that the reading takes, are together of bulk at most 1048576: NARROWER than '..Said'. Prove '..Said' where nothing that the law and all that it calls make is longer than what came in: it says more and counts as full. Else prove '..UptoSaid'. A law counts once. -/
mutual
def uptoBulk {H : Type} : DataW H → Nat
  | .lit (.string bytes) => bytes.length + 1
  | .lit _ => 1
  | .nil => 1
  | .ptr d => uptoBulk d + 1
  | .slice elems spare => uptoBulkAll elems + uptoBulkAll spare + 1
  | .agg parts => uptoBulkAll parts + 1
  | .iface _ d => uptoBulk d + 1
  | .map entries => uptoBulkEntries entries + 1
  | .held _ => 1
def uptoBulkAll {H : Type} : List (DataW H) → Nat
  | [] => 0
  | d :: r => uptoBulk d + uptoBulkAll r
def uptoBulkEntries {H : Type} : List (Lit × DataW H) → Nat
  | [] => 0
  | x :: r => uptoBulkEntry x + uptoBulkEntries r
def uptoBulkEntry {H : Type} : Lit × DataW H → Nat
  | (.string bytes, d) => bytes.length + uptoBulk d + 1
  | (_, d) => uptoBulk d + 1
 end
def uptoSmall : (H : Type) → List (DataW H) → Bool := fun _ ds => decide (uptoBulkAll ds ≤ 1048576)
def OpenSpec.upto (s : _root_.Go.ChangeSpec) : _root_.Go.OpenSpec := { _root_.Go.OpenSpec.ofChange s with cond := some uptoSmall }

/-- 'countinghouselaw14.RunnerPlays', WHERE WHAT IT READS IS OF BULK AT MOST 1048576: true; the input reads as it did. -/
def runnerPlaysUptoRow : OpenClaim := { program := "ytcpgamidimfflaagreat", sum := "c3fa83ca62e88791f028edb31a78f2dc7b888a82eedc453f9f55d513de8bc47b", func := "countinghouse/countinghouselaw14.RunnerPlays", spec := "runnerPlays", inPlace := ["math/bits.Add64", "maps.clone"], unfollowed := true, recurses := true, plainKeys := false, apart := false, narrowed := true }
def RunnerPlaysUptoSaid : Prop := runnerPlaysUptoRow.holds Tryz.pinned (OpenSpec.upto runnerPlaysSpec)

/-- 'countinghouselaw14.RunnerAlike', WHERE WHAT IT READS IS OF BULK AT MOST 1048576: true; the input reads as it did. -/
def runnerAlikeUptoRow : OpenClaim := { program := "ytcpgamidimfflaagreat", sum := "c3fa83ca62e88791f028edb31a78f2dc7b888a82eedc453f9f55d513de8bc47b", func := "countinghouse/countinghouselaw14.RunnerAlike", spec := "runnerAlike", inPlace := ["math/bits.Add64", "maps.clone"], unfollowed := true, recurses := true, plainKeys := false, apart := false, narrowed := true }
def RunnerAlikeUptoSaid : Prop := runnerAlikeUptoRow.holds Tryz.pinned (OpenSpec.upto runnerAlikeSpec)

/-- 'countinghouselaw14.RunnerOnce', WHERE WHAT IT READS IS OF BULK AT MOST 1048576: true; the input reads as it did. -/
def runnerOnceUptoRow : OpenClaim := { program := "ytcpgamidimfflaagreat", sum := "c3fa83ca62e88791f028edb31a78f2dc7b888a82eedc453f9f55d513de8bc47b", func := "countinghouse/countinghouselaw14.RunnerOnce", spec := "runnerOnce", inPlace := ["math/bits.Add64", "maps.clone"], unfollowed := true, recurses := true, plainKeys := false, apart := false, narrowed := true }
def RunnerOnceUptoSaid : Prop := runnerOnceUptoRow.holds Tryz.pinned (OpenSpec.upto runnerOnceSpec)

/-- 'countinghouselaw14.RunnerNil', WHERE WHAT IT READS IS OF BULK AT MOST 1048576: true; the input reads as it did. -/
def runnerNilUptoRow : OpenClaim := { program := "ytcpgamidimfflaagreat", sum := "c3fa83ca62e88791f028edb31a78f2dc7b888a82eedc453f9f55d513de8bc47b", func := "countinghouse/countinghouselaw14.RunnerNil", spec := "runnerNil", inPlace := ["math/bits.Add64", "maps.clone"], unfollowed := true, recurses := true, plainKeys := false, apart := false, narrowed := true }
def RunnerNilUptoSaid : Prop := runnerNilUptoRow.holds Tryz.pinned (OpenSpec.upto runnerNilSpec)

/-- 'countinghouselaw14.RunnerRow', WHERE WHAT IT READS IS OF BULK AT MOST 1048576: true; the input reads as it did. -/
def runnerRowUptoRow : OpenClaim := { program := "ytcpgamidimfflaagreat", sum := "c3fa83ca62e88791f028edb31a78f2dc7b888a82eedc453f9f55d513de8bc47b", func := "countinghouse/countinghouselaw14.RunnerRow", spec := "runnerRow", inPlace := ["math/bits.Add64", "maps.clone"], unfollowed := true, recurses := true, plainKeys := false, apart := false, narrowed := true }
def RunnerRowUptoSaid : Prop := runnerRowUptoRow.holds Tryz.pinned (OpenSpec.upto runnerRowSpec)

/-- 'countinghouselaw14.RunnerOrder', WHERE WHAT IT READS IS OF BULK AT MOST 1048576: true; the input reads as it did. -/
def runnerOrderUptoRow : OpenClaim := { program := "ytcpgamidimfflaagreat", sum := "c3fa83ca62e88791f028edb31a78f2dc7b888a82eedc453f9f55d513de8bc47b", func := "countinghouse/countinghouselaw14.RunnerOrder", spec := "runnerOrder", inPlace := ["math/bits.Add64", "maps.clone"], unfollowed := true, recurses := true, plainKeys := false, apart := false, narrowed := true }
def RunnerOrderUptoSaid : Prop := runnerOrderUptoRow.holds Tryz.pinned (OpenSpec.upto runnerOrderSpec)

end Rows
end Go.Proofs.YtcpgamidimfflaaGreat
