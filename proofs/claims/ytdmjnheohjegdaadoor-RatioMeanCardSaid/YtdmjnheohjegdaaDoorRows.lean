/-
  NARROWER THAN 'FOR EVERY INPUT', by the rows' own cells (each row's printed sentence says how): RatioTimes: laid · RatioNear: laid · RatioOnce: laid · RatioLeft: laid · RatioMean: laid · RatioShows: laid.
  DERIVED. THE GIVEN ROWS OF THIS SEAT. 6 by the template 'for every input the law returns true; each argument reads behind the call as it read before'; 0 by the template 'total and deterministic' (their statements: YtdmjnheohjegdaaDoorTotals.lean).
  GIVEN WITH THE SEED: the statements are not yours to turn. If you find one false, say at which input.
  Laid BY PROGRAM, IN A SANDBOX (cutbox-rows.mjs): the forced cells as the released guide's own fill.sh prints them over the translation 55dacab1ffcc8d4e… (all of the seat's roots in one cut). By AI agents, Wed Nov 11 2026. No macro, syntax, notation, axiom, sorry.
-/
import Derived.Test.YtdmjnheohjegdaaDoorChecked
import GoSem.Claim
import GoSem.ClaimJoined
import GoSem.ClaimMapViews
import Derived.JoinedTies
import Derived.KernelRfl
namespace Go.Proofs.YtdmjnheohjegdaaDoor
/- THE CELL 'sum', in the pinned program and in every row, IS THE sha256 OF THE DUMP (.gsa) THAT YtdmjnheohjegdaaDoorProg.lean LOADS. Nothing in Lean hashes anything: it is a label: what it is worth is what the hold of that sum in a sandbox is worth. -/
noncomputable def Tryd.pinned : Pinned := { name := "ytdmjnheohjegdaadoor", sum := "55dacab1ffcc8d4e833d93aba37fcdfb7e189170c8ab894bf24158e894bdf56d", checked := Tryd.checked }
namespace Rows
def none {H : Type} : Left H := { results := [], args := [] }

/- WHAT THE LISTED PACKAGE-LEVEL VARIABLES READ AS WHEN THE CALL BEGINS. Each datum BY PROGRAM (the guide's laid-datum.mjs) off the statement by which the dump's own 'gosem.cut.vars' lays the variable. In a bare row this is a premise. The card (YtdmjnheohjegdaaDoorCards.lean) ties it to the program's text. -/
def laid_math_bits_deBruijn32tab {H : Type} : DataW H := .agg [.lit (.int .u8 0), .lit (.int .u8 1), .lit (.int .u8 28), .lit (.int .u8 2), .lit (.int .u8 29), .lit (.int .u8 14), .lit (.int .u8 24), .lit (.int .u8 3), .lit (.int .u8 30), .lit (.int .u8 22), .lit (.int .u8 20), .lit (.int .u8 15), .lit (.int .u8 25), .lit (.int .u8 17), .lit (.int .u8 4), .lit (.int .u8 8), .lit (.int .u8 31), .lit (.int .u8 27), .lit (.int .u8 13), .lit (.int .u8 23), .lit (.int .u8 21), .lit (.int .u8 19), .lit (.int .u8 16), .lit (.int .u8 7), .lit (.int .u8 26), .lit (.int .u8 12), .lit (.int .u8 18), .lit (.int .u8 6), .lit (.int .u8 11), .lit (.int .u8 5), .lit (.int .u8 10), .lit (.int .u8 9)]
def laid_math_bits_deBruijn64tab {H : Type} : DataW H := .agg [.lit (.int .u8 0), .lit (.int .u8 1), .lit (.int .u8 56), .lit (.int .u8 2), .lit (.int .u8 57), .lit (.int .u8 49), .lit (.int .u8 28), .lit (.int .u8 3), .lit (.int .u8 61), .lit (.int .u8 58), .lit (.int .u8 42), .lit (.int .u8 50), .lit (.int .u8 38), .lit (.int .u8 29), .lit (.int .u8 17), .lit (.int .u8 4), .lit (.int .u8 62), .lit (.int .u8 47), .lit (.int .u8 59), .lit (.int .u8 36), .lit (.int .u8 45), .lit (.int .u8 43), .lit (.int .u8 51), .lit (.int .u8 22), .lit (.int .u8 53), .lit (.int .u8 39), .lit (.int .u8 33), .lit (.int .u8 30), .lit (.int .u8 24), .lit (.int .u8 18), .lit (.int .u8 12), .lit (.int .u8 5), .lit (.int .u8 63), .lit (.int .u8 55), .lit (.int .u8 48), .lit (.int .u8 27), .lit (.int .u8 60), .lit (.int .u8 41), .lit (.int .u8 37), .lit (.int .u8 16), .lit (.int .u8 46), .lit (.int .u8 35), .lit (.int .u8 44), .lit (.int .u8 21), .lit (.int .u8 52), .lit (.int .u8 32), .lit (.int .u8 23), .lit (.int .u8 11), .lit (.int .u8 54), .lit (.int .u8 26), .lit (.int .u8 40), .lit (.int .u8 15), .lit (.int .u8 34), .lit (.int .u8 20), .lit (.int .u8 31), .lit (.int .u8 10), .lit (.int .u8 25), .lit (.int .u8 14), .lit (.int .u8 19), .lit (.int .u8 9), .lit (.int .u8 13), .lit (.int .u8 8), .lit (.int .u8 7), .lit (.int .u8 6)]
def laid_internal_strconv_uint64pow10 {H : Type} : DataW H := .agg [.lit (.int .u64 1), .lit (.int .u64 10), .lit (.int .u64 100), .lit (.int .u64 1000), .lit (.int .u64 10000), .lit (.int .u64 100000), .lit (.int .u64 1000000), .lit (.int .u64 10000000), .lit (.int .u64 100000000), .lit (.int .u64 1000000000), .lit (.int .u64 10000000000), .lit (.int .u64 100000000000), .lit (.int .u64 1000000000000), .lit (.int .u64 10000000000000), .lit (.int .u64 100000000000000), .lit (.int .u64 1000000000000000), .lit (.int .u64 10000000000000000), .lit (.int .u64 100000000000000000), .lit (.int .u64 1000000000000000000), .lit (.int .u64 10000000000000000000)]

/-- 'countinghouselaw19.RatioTimes': WHATEVER THE INPUT: true; the input reads as it did. -/
def ratioTimesSpec : ChangeSpec := { name := "ratioTimes", fn := fun _ => fun
  | [d1, d2, d3] => { results := [.lit (.bool true)], args := [d1, d2, d3] }
  | _ => none }
def ratioTimesRow : OpenClaim := { program := "ytdmjnheohjegdaadoor", sum := "55dacab1ffcc8d4e833d93aba37fcdfb7e189170c8ab894bf24158e894bdf56d", func := "countinghouse/countinghouselaw19.RatioTimes", spec := "ratioTimes", inPlace := ["math.RoundToEven", "math.Float64bits", "math.Float64frombits", "internal/abi.NoEscape", "internal/bytealg.MakeNoZero", "math.archMax"], named := ["internal/strconv.uint64pow10", "math/bits.deBruijn32tab", "math/bits.deBruijn64tab"], apart := false, laid := [("math/bits.deBruijn32tab", laid_math_bits_deBruijn32tab), ("math/bits.deBruijn64tab", laid_math_bits_deBruijn64tab), ("internal/strconv.uint64pow10", laid_internal_strconv_uint64pow10)] }
def RatioTimesSaid : Prop := ratioTimesRow.holds Tryd.pinned (OpenSpec.ofChange ratioTimesSpec)

/-- ITS FALSE NEIGHBOUR: 'it returns false'. Refute it at one input. -/
def ratioTimesWrong : ChangeSpec := { name := "ratioTimes", fn := fun _ => fun
  | [d1, d2, d3] => { results := [.lit (.bool false)], args := [d1, d2, d3] }
  | _ => none }
def RatioTimesWrongFalsely : Prop := ratioTimesRow.holds Tryd.pinned (OpenSpec.ofChange ratioTimesWrong)

/-- 'countinghouselaw19.RatioNear': WHATEVER THE INPUT: true; the input reads as it did. -/
def ratioNearSpec : ChangeSpec := { name := "ratioNear", fn := fun _ => fun
  | [d1, d2, d3] => { results := [.lit (.bool true)], args := [d1, d2, d3] }
  | _ => none }
def ratioNearRow : OpenClaim := { program := "ytdmjnheohjegdaadoor", sum := "55dacab1ffcc8d4e833d93aba37fcdfb7e189170c8ab894bf24158e894bdf56d", func := "countinghouse/countinghouselaw19.RatioNear", spec := "ratioNear", inPlace := ["math.RoundToEven", "math.Float64bits", "math.Float64frombits", "internal/abi.NoEscape", "internal/bytealg.MakeNoZero", "math.archMax"], named := ["internal/strconv.uint64pow10", "math/bits.deBruijn32tab", "math/bits.deBruijn64tab"], apart := false, laid := [("math/bits.deBruijn32tab", laid_math_bits_deBruijn32tab), ("math/bits.deBruijn64tab", laid_math_bits_deBruijn64tab), ("internal/strconv.uint64pow10", laid_internal_strconv_uint64pow10)] }
def RatioNearSaid : Prop := ratioNearRow.holds Tryd.pinned (OpenSpec.ofChange ratioNearSpec)

/-- ITS FALSE NEIGHBOUR: 'it returns false'. Refute it at one input. -/
def ratioNearWrong : ChangeSpec := { name := "ratioNear", fn := fun _ => fun
  | [d1, d2, d3] => { results := [.lit (.bool false)], args := [d1, d2, d3] }
  | _ => none }
def RatioNearWrongFalsely : Prop := ratioNearRow.holds Tryd.pinned (OpenSpec.ofChange ratioNearWrong)

/-- 'countinghouselaw19.RatioOnce': WHATEVER THE INPUT: true; the input reads as it did. -/
def ratioOnceSpec : ChangeSpec := { name := "ratioOnce", fn := fun _ => fun
  | [d] => { results := [.lit (.bool true)], args := [d] }
  | _ => none }
def ratioOnceRow : OpenClaim := { program := "ytdmjnheohjegdaadoor", sum := "55dacab1ffcc8d4e833d93aba37fcdfb7e189170c8ab894bf24158e894bdf56d", func := "countinghouse/countinghouselaw19.RatioOnce", spec := "ratioOnce", inPlace := ["math.RoundToEven", "math.Float64bits", "math.Float64frombits", "internal/abi.NoEscape", "internal/bytealg.MakeNoZero", "math.archMax"], named := ["internal/strconv.uint64pow10", "math/bits.deBruijn32tab", "math/bits.deBruijn64tab"], apart := false, laid := [("math/bits.deBruijn32tab", laid_math_bits_deBruijn32tab), ("math/bits.deBruijn64tab", laid_math_bits_deBruijn64tab), ("internal/strconv.uint64pow10", laid_internal_strconv_uint64pow10)] }
def RatioOnceSaid : Prop := ratioOnceRow.holds Tryd.pinned (OpenSpec.ofChange ratioOnceSpec)

/-- ITS FALSE NEIGHBOUR: 'it returns false'. Refute it at one input. -/
def ratioOnceWrong : ChangeSpec := { name := "ratioOnce", fn := fun _ => fun
  | [d] => { results := [.lit (.bool false)], args := [d] }
  | _ => none }
def RatioOnceWrongFalsely : Prop := ratioOnceRow.holds Tryd.pinned (OpenSpec.ofChange ratioOnceWrong)

/-- 'countinghouselaw19.RatioLeft': WHATEVER THE INPUT: true; the input reads as it did. -/
def ratioLeftSpec : ChangeSpec := { name := "ratioLeft", fn := fun _ => fun
  | [d1, d2] => { results := [.lit (.bool true)], args := [d1, d2] }
  | _ => none }
def ratioLeftRow : OpenClaim := { program := "ytdmjnheohjegdaadoor", sum := "55dacab1ffcc8d4e833d93aba37fcdfb7e189170c8ab894bf24158e894bdf56d", func := "countinghouse/countinghouselaw19.RatioLeft", spec := "ratioLeft", inPlace := ["math.RoundToEven", "math.Float64bits", "math.Float64frombits", "internal/abi.NoEscape", "internal/bytealg.MakeNoZero", "math.archMax", "math/bits.Add64"], named := ["internal/strconv.uint64pow10", "math/bits.deBruijn32tab", "math/bits.deBruijn64tab"], apart := false, laid := [("math/bits.deBruijn32tab", laid_math_bits_deBruijn32tab), ("math/bits.deBruijn64tab", laid_math_bits_deBruijn64tab), ("internal/strconv.uint64pow10", laid_internal_strconv_uint64pow10)] }
def RatioLeftSaid : Prop := ratioLeftRow.holds Tryd.pinned (OpenSpec.ofChange ratioLeftSpec)

/-- ITS FALSE NEIGHBOUR: 'it returns false'. Refute it at one input. -/
def ratioLeftWrong : ChangeSpec := { name := "ratioLeft", fn := fun _ => fun
  | [d1, d2] => { results := [.lit (.bool false)], args := [d1, d2] }
  | _ => none }
def RatioLeftWrongFalsely : Prop := ratioLeftRow.holds Tryd.pinned (OpenSpec.ofChange ratioLeftWrong)

/-- 'countinghouselaw19.RatioMean': WHATEVER THE INPUT: true; the input reads as it did. -/
def ratioMeanSpec : ChangeSpec := { name := "ratioMean", fn := fun _ => fun
  | [d1, d2] => { results := [.lit (.bool true)], args := [d1, d2] }
  | _ => none }
def ratioMeanRow : OpenClaim := { program := "ytdmjnheohjegdaadoor", sum := "55dacab1ffcc8d4e833d93aba37fcdfb7e189170c8ab894bf24158e894bdf56d", func := "countinghouse/countinghouselaw19.RatioMean", spec := "ratioMean", inPlace := ["math.RoundToEven", "math.Float64bits", "math.Float64frombits", "internal/abi.NoEscape", "internal/bytealg.MakeNoZero", "math.archMax"], named := ["internal/strconv.uint64pow10", "math/bits.deBruijn32tab", "math/bits.deBruijn64tab"], apart := false, laid := [("math/bits.deBruijn32tab", laid_math_bits_deBruijn32tab), ("math/bits.deBruijn64tab", laid_math_bits_deBruijn64tab), ("internal/strconv.uint64pow10", laid_internal_strconv_uint64pow10)] }
def RatioMeanSaid : Prop := ratioMeanRow.holds Tryd.pinned (OpenSpec.ofChange ratioMeanSpec)

/-- ITS FALSE NEIGHBOUR: 'it returns false'. Refute it at one input. -/
def ratioMeanWrong : ChangeSpec := { name := "ratioMean", fn := fun _ => fun
  | [d1, d2] => { results := [.lit (.bool false)], args := [d1, d2] }
  | _ => none }
def RatioMeanWrongFalsely : Prop := ratioMeanRow.holds Tryd.pinned (OpenSpec.ofChange ratioMeanWrong)

/-- 'countinghouselaw19.RatioShows': WHATEVER THE INPUT: true; the input reads as it did. -/
def ratioShowsSpec : ChangeSpec := { name := "ratioShows", fn := fun _ => fun
  | [d1, d2] => { results := [.lit (.bool true)], args := [d1, d2] }
  | _ => none }
def ratioShowsRow : OpenClaim := { program := "ytdmjnheohjegdaadoor", sum := "55dacab1ffcc8d4e833d93aba37fcdfb7e189170c8ab894bf24158e894bdf56d", func := "countinghouse/countinghouselaw19.RatioShows", spec := "ratioShows", inPlace := ["math.RoundToEven", "math.Float64bits", "math.Float64frombits", "internal/abi.NoEscape", "internal/bytealg.MakeNoZero", "math.archMax"], named := ["internal/strconv.uint64pow10", "math/bits.deBruijn32tab", "math/bits.deBruijn64tab"], apart := false, laid := [("math/bits.deBruijn32tab", laid_math_bits_deBruijn32tab), ("math/bits.deBruijn64tab", laid_math_bits_deBruijn64tab), ("internal/strconv.uint64pow10", laid_internal_strconv_uint64pow10)] }
def RatioShowsSaid : Prop := ratioShowsRow.holds Tryd.pinned (OpenSpec.ofChange ratioShowsSpec)

/-- ITS FALSE NEIGHBOUR: 'it returns false'. Refute it at one input. -/
def ratioShowsWrong : ChangeSpec := { name := "ratioShows", fn := fun _ => fun
  | [d1, d2] => { results := [.lit (.bool false)], args := [d1, d2] }
  | _ => none }
def RatioShowsWrongFalsely : Prop := ratioShowsRow.holds Tryd.pinned (OpenSpec.ofChange ratioShowsWrong)

/- THE SECOND FORM. 'bulk': how many values and letters a reading holds, each counted each time it is reached (what is shared counts as often as it is met; a slice's spare places count too). A statement '..UptoSaid' is the law's where the arguments, and the package variables that the reading takes, are together of bulk at most 1048576: NARROWER than '..Said'. Prove '..Said' where nothing that the law and all that it calls make is longer than what came in: it says more and counts as full. Else prove '..UptoSaid'. A law counts once. -/
mutual
def uptoBulk {H : Type} : DataW H → Nat
  | .lit (.string bytes) => bytes.length + 1
  | .lit _ => 1
  | .nil => 1
  | .ptr d => uptoBulk d + 1
  | .slice elems spare => uptoBulkAll elems + uptoBulkAll spare + 1
  | .agg parts => uptoBulkAll parts + 1
  | .iface _ d => uptoBulk d + 1
  | .map entries => uptoBulkEntries entries + 1
  | .held _ => 1
def uptoBulkAll {H : Type} : List (DataW H) → Nat
  | [] => 0
  | d :: r => uptoBulk d + uptoBulkAll r
def uptoBulkEntries {H : Type} : List (Lit × DataW H) → Nat
  | [] => 0
  | x :: r => uptoBulkEntry x + uptoBulkEntries r
def uptoBulkEntry {H : Type} : Lit × DataW H → Nat
  | (.string bytes, d) => bytes.length + uptoBulk d + 1
  | (_, d) => uptoBulk d + 1
 end
def uptoSmall : (H : Type) → List (DataW H) → Bool := fun _ ds => decide (uptoBulkAll ds ≤ 1048576)
def OpenSpec.upto (s : _root_.Go.ChangeSpec) : _root_.Go.OpenSpec := { _root_.Go.OpenSpec.ofChange s with cond := some uptoSmall }

/-- 'countinghouselaw19.RatioTimes', WHERE WHAT IT READS IS OF BULK AT MOST 1048576: true; the input reads as it did. -/
def ratioTimesUptoRow : OpenClaim := { program := "ytdmjnheohjegdaadoor", sum := "55dacab1ffcc8d4e833d93aba37fcdfb7e189170c8ab894bf24158e894bdf56d", func := "countinghouse/countinghouselaw19.RatioTimes", spec := "ratioTimes", inPlace := ["math.RoundToEven", "math.Float64bits", "math.Float64frombits", "internal/abi.NoEscape", "internal/bytealg.MakeNoZero", "math.archMax"], named := ["internal/strconv.uint64pow10", "math/bits.deBruijn32tab", "math/bits.deBruijn64tab"], apart := false, laid := [("math/bits.deBruijn32tab", laid_math_bits_deBruijn32tab), ("math/bits.deBruijn64tab", laid_math_bits_deBruijn64tab), ("internal/strconv.uint64pow10", laid_internal_strconv_uint64pow10)], narrowed := true }
def RatioTimesUptoSaid : Prop := ratioTimesUptoRow.holds Tryd.pinned (OpenSpec.upto ratioTimesSpec)

/-- 'countinghouselaw19.RatioNear', WHERE WHAT IT READS IS OF BULK AT MOST 1048576: true; the input reads as it did. -/
def ratioNearUptoRow : OpenClaim := { program := "ytdmjnheohjegdaadoor", sum := "55dacab1ffcc8d4e833d93aba37fcdfb7e189170c8ab894bf24158e894bdf56d", func := "countinghouse/countinghouselaw19.RatioNear", spec := "ratioNear", inPlace := ["math.RoundToEven", "math.Float64bits", "math.Float64frombits", "internal/abi.NoEscape", "internal/bytealg.MakeNoZero", "math.archMax"], named := ["internal/strconv.uint64pow10", "math/bits.deBruijn32tab", "math/bits.deBruijn64tab"], apart := false, laid := [("math/bits.deBruijn32tab", laid_math_bits_deBruijn32tab), ("math/bits.deBruijn64tab", laid_math_bits_deBruijn64tab), ("internal/strconv.uint64pow10", laid_internal_strconv_uint64pow10)], narrowed := true }
def RatioNearUptoSaid : Prop := ratioNearUptoRow.holds Tryd.pinned (OpenSpec.upto ratioNearSpec)

/-- 'countinghouselaw19.RatioOnce', WHERE WHAT IT READS IS OF BULK AT MOST 1048576: true; the input reads as it did. -/
def ratioOnceUptoRow : OpenClaim := { program := "ytdmjnheohjegdaadoor", sum := "55dacab1ffcc8d4e833d93aba37fcdfb7e189170c8ab894bf24158e894bdf56d", func := "countinghouse/countinghouselaw19.RatioOnce", spec := "ratioOnce", inPlace := ["math.RoundToEven", "math.Float64bits", "math.Float64frombits", "internal/abi.NoEscape", "internal/bytealg.MakeNoZero", "math.archMax"], named := ["internal/strconv.uint64pow10", "math/bits.deBruijn32tab", "math/bits.deBruijn64tab"], apart := false, laid := [("math/bits.deBruijn32tab", laid_math_bits_deBruijn32tab), ("math/bits.deBruijn64tab", laid_math_bits_deBruijn64tab), ("internal/strconv.uint64pow10", laid_internal_strconv_uint64pow10)], narrowed := true }
def RatioOnceUptoSaid : Prop := ratioOnceUptoRow.holds Tryd.pinned (OpenSpec.upto ratioOnceSpec)

/-- 'countinghouselaw19.RatioLeft', WHERE WHAT IT READS IS OF BULK AT MOST 1048576: true; the input reads as it did. -/
def ratioLeftUptoRow : OpenClaim := { program := "ytdmjnheohjegdaadoor", sum := "55dacab1ffcc8d4e833d93aba37fcdfb7e189170c8ab894bf24158e894bdf56d", func := "countinghouse/countinghouselaw19.RatioLeft", spec := "ratioLeft", inPlace := ["math.RoundToEven", "math.Float64bits", "math.Float64frombits", "internal/abi.NoEscape", "internal/bytealg.MakeNoZero", "math.archMax", "math/bits.Add64"], named := ["internal/strconv.uint64pow10", "math/bits.deBruijn32tab", "math/bits.deBruijn64tab"], apart := false, laid := [("math/bits.deBruijn32tab", laid_math_bits_deBruijn32tab), ("math/bits.deBruijn64tab", laid_math_bits_deBruijn64tab), ("internal/strconv.uint64pow10", laid_internal_strconv_uint64pow10)], narrowed := true }
def RatioLeftUptoSaid : Prop := ratioLeftUptoRow.holds Tryd.pinned (OpenSpec.upto ratioLeftSpec)

/-- 'countinghouselaw19.RatioMean', WHERE WHAT IT READS IS OF BULK AT MOST 1048576: true; the input reads as it did. -/
def ratioMeanUptoRow : OpenClaim := { program := "ytdmjnheohjegdaadoor", sum := "55dacab1ffcc8d4e833d93aba37fcdfb7e189170c8ab894bf24158e894bdf56d", func := "countinghouse/countinghouselaw19.RatioMean", spec := "ratioMean", inPlace := ["math.RoundToEven", "math.Float64bits", "math.Float64frombits", "internal/abi.NoEscape", "internal/bytealg.MakeNoZero", "math.archMax"], named := ["internal/strconv.uint64pow10", "math/bits.deBruijn32tab", "math/bits.deBruijn64tab"], apart := false, laid := [("math/bits.deBruijn32tab", laid_math_bits_deBruijn32tab), ("math/bits.deBruijn64tab", laid_math_bits_deBruijn64tab), ("internal/strconv.uint64pow10", laid_internal_strconv_uint64pow10)], narrowed := true }
def RatioMeanUptoSaid : Prop := ratioMeanUptoRow.holds Tryd.pinned (OpenSpec.upto ratioMeanSpec)

/-- 'countinghouselaw19.RatioShows', WHERE WHAT IT READS IS OF BULK AT MOST 1048576: true; the input reads as it did. -/
def ratioShowsUptoRow : OpenClaim := { program := "ytdmjnheohjegdaadoor", sum := "55dacab1ffcc8d4e833d93aba37fcdfb7e189170c8ab894bf24158e894bdf56d", func := "countinghouse/countinghouselaw19.RatioShows", spec := "ratioShows", inPlace := ["math.RoundToEven", "math.Float64bits", "math.Float64frombits", "internal/abi.NoEscape", "internal/bytealg.MakeNoZero", "math.archMax"], named := ["internal/strconv.uint64pow10", "math/bits.deBruijn32tab", "math/bits.deBruijn64tab"], apart := false, laid := [("math/bits.deBruijn32tab", laid_math_bits_deBruijn32tab), ("math/bits.deBruijn64tab", laid_math_bits_deBruijn64tab), ("internal/strconv.uint64pow10", laid_internal_strconv_uint64pow10)], narrowed := true }
def RatioShowsUptoSaid : Prop := ratioShowsUptoRow.holds Tryd.pinned (OpenSpec.upto ratioShowsSpec)

end Rows
end Go.Proofs.YtdmjnheohjegdaaDoor
