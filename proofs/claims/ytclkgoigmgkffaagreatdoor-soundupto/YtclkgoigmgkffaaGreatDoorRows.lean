/-
  NARROWER THAN 'FOR EVERY INPUT', by the rows' own cells (each row's printed sentence says how): Patterns: laid · Packs: laid · Checks: laid · Sound: laid.
  DERIVED. THE GIVEN ROWS OF THIS SEAT. 4 by the template 'for every input the law returns true; each argument reads behind the call as it read before'; 0 by the template 'total and deterministic' (their statements: YtclkgoigmgkffaaGreatDoorTotals.lean).
  GIVEN WITH THE SEED: the statements are not yours to turn. If you find one false, say at which input.
  Laid BY PROGRAM, IN A SANDBOX (cutbox-rows.mjs): the forced cells as the released guide's own fill.sh prints them over the translation 8a8c0e53f52f9abe… (all of the seat's roots in one cut). By AI agents, Wed Nov 11 2026. No macro, syntax, notation, axiom, sorry.
-/
import Derived.Test.YtclkgoigmgkffaaGreatDoorChecked
import GoSem.Claim
import GoSem.ClaimJoined
import GoSem.ClaimMapViews
import Derived.JoinedTies
import Derived.KernelRfl
namespace Go.Proofs.YtclkgoigmgkffaaGreatDoor
/- THE CELL 'sum', in the pinned program and in every row, IS THE sha256 OF THE DUMP (.gsa) THAT YtclkgoigmgkffaaGreatDoorProg.lean LOADS. Nothing in Lean hashes anything: it is a label: what it is worth is what the hold of that sum in a sandbox is worth. -/
noncomputable def Tryz.pinned : Pinned := { name := "ytclkgoigmgkffaagreatdoor", sum := "8a8c0e53f52f9abe957943c8d6bdd32f72a5f3e8e9265d92f19d737dec0c4611", checked := Tryz.checked }
namespace Rows
def none {H : Type} : Left H := { results := [], args := [] }

/- WHAT THE LISTED PACKAGE-LEVEL VARIABLES READ AS WHEN THE CALL BEGINS. Each datum BY PROGRAM (the guide's laid-datum.mjs) off the statement by which the dump's own 'gosem.cut.vars' lays the variable. In a bare row this is a premise. The card (YtclkgoigmgkffaaGreatDoorCards.lean) ties it to the program's text. -/
def laid_math_bits_deBruijn32tab {H : Type} : DataW H := .agg [.lit (.int .u8 0), .lit (.int .u8 1), .lit (.int .u8 28), .lit (.int .u8 2), .lit (.int .u8 29), .lit (.int .u8 14), .lit (.int .u8 24), .lit (.int .u8 3), .lit (.int .u8 30), .lit (.int .u8 22), .lit (.int .u8 20), .lit (.int .u8 15), .lit (.int .u8 25), .lit (.int .u8 17), .lit (.int .u8 4), .lit (.int .u8 8), .lit (.int .u8 31), .lit (.int .u8 27), .lit (.int .u8 13), .lit (.int .u8 23), .lit (.int .u8 21), .lit (.int .u8 19), .lit (.int .u8 16), .lit (.int .u8 7), .lit (.int .u8 26), .lit (.int .u8 12), .lit (.int .u8 18), .lit (.int .u8 6), .lit (.int .u8 11), .lit (.int .u8 5), .lit (.int .u8 10), .lit (.int .u8 9)]
def laid_math_bits_deBruijn64tab {H : Type} : DataW H := .agg [.lit (.int .u8 0), .lit (.int .u8 1), .lit (.int .u8 56), .lit (.int .u8 2), .lit (.int .u8 57), .lit (.int .u8 49), .lit (.int .u8 28), .lit (.int .u8 3), .lit (.int .u8 61), .lit (.int .u8 58), .lit (.int .u8 42), .lit (.int .u8 50), .lit (.int .u8 38), .lit (.int .u8 29), .lit (.int .u8 17), .lit (.int .u8 4), .lit (.int .u8 62), .lit (.int .u8 47), .lit (.int .u8 59), .lit (.int .u8 36), .lit (.int .u8 45), .lit (.int .u8 43), .lit (.int .u8 51), .lit (.int .u8 22), .lit (.int .u8 53), .lit (.int .u8 39), .lit (.int .u8 33), .lit (.int .u8 30), .lit (.int .u8 24), .lit (.int .u8 18), .lit (.int .u8 12), .lit (.int .u8 5), .lit (.int .u8 63), .lit (.int .u8 55), .lit (.int .u8 48), .lit (.int .u8 27), .lit (.int .u8 60), .lit (.int .u8 41), .lit (.int .u8 37), .lit (.int .u8 16), .lit (.int .u8 46), .lit (.int .u8 35), .lit (.int .u8 44), .lit (.int .u8 21), .lit (.int .u8 52), .lit (.int .u8 32), .lit (.int .u8 23), .lit (.int .u8 11), .lit (.int .u8 54), .lit (.int .u8 26), .lit (.int .u8 40), .lit (.int .u8 15), .lit (.int .u8 34), .lit (.int .u8 20), .lit (.int .u8 31), .lit (.int .u8 10), .lit (.int .u8 25), .lit (.int .u8 14), .lit (.int .u8 19), .lit (.int .u8 9), .lit (.int .u8 13), .lit (.int .u8 8), .lit (.int .u8 7), .lit (.int .u8 6)]
def laid_internal_strconv_uint64pow10 {H : Type} : DataW H := .agg [.lit (.int .u64 1), .lit (.int .u64 10), .lit (.int .u64 100), .lit (.int .u64 1000), .lit (.int .u64 10000), .lit (.int .u64 100000), .lit (.int .u64 1000000), .lit (.int .u64 10000000), .lit (.int .u64 100000000), .lit (.int .u64 1000000000), .lit (.int .u64 10000000000), .lit (.int .u64 100000000000), .lit (.int .u64 1000000000000), .lit (.int .u64 10000000000000), .lit (.int .u64 100000000000000), .lit (.int .u64 1000000000000000), .lit (.int .u64 10000000000000000), .lit (.int .u64 100000000000000000), .lit (.int .u64 1000000000000000000), .lit (.int .u64 10000000000000000000)]
def laid_glean_gleanref_sorts {H : Type} : DataW H := .agg [.lit (.int .i64 1), .lit (.int .i64 2), .lit (.int .i64 0), .lit (.int .i64 3), .lit (.int .i64 3), .lit (.int .i64 4), .lit (.int .i64 4), .lit (.int .i64 0), .lit (.int .i64 0), .lit (.int .i64 0), .lit (.int .i64 0), .lit (.int .i64 5), .lit (.int .i64 5), .lit (.int .i64 5), .lit (.int .i64 5), .lit (.int .i64 5), .lit (.int .i64 5), .lit (.int .i64 7), .lit (.int .i64 0), .lit (.int .i64 0), .lit (.int .i64 0), .lit (.int .i64 0), .lit (.int .i64 0), .lit (.int .i64 0), .lit (.int .i64 0), .lit (.int .i64 0), .lit (.int .i64 0), .lit (.int .i64 0), .lit (.int .i64 0), .lit (.int .i64 0), .lit (.int .i64 0), .lit (.int .i64 0), .lit (.int .i64 0), .lit (.int .i64 0), .lit (.int .i64 0), .lit (.int .i64 6), .lit (.int .i64 6), .lit (.int .i64 6), .lit (.int .i64 5), .lit (.int .i64 0), .lit (.int .i64 0), .lit (.int .i64 0), .lit (.int .i64 0), .lit (.int .i64 0), .lit (.int .i64 8), .lit (.int .i64 0), .lit (.int .i64 0), .lit (.int .i64 0), .lit (.int .i64 7), .lit (.int .i64 7), .lit (.int .i64 9), .lit (.int .i64 0), .lit (.int .i64 0), .lit (.int .i64 0)]
def laid_glean_gleanref_takes {H : Type} : DataW H := .agg [.lit (.string []), .lit (.string []), .lit (.string []), .lit (.string []), .lit (.string [97]), .lit (.string []), .lit (.string [97]), .lit (.string [110]), .lit (.string [110, 97]), .lit (.string []), .lit (.string []), .lit (.string [116]), .lit (.string [116, 97]), .lit (.string [116]), .lit (.string [116]), .lit (.string []), .lit (.string []), .lit (.string [107]), .lit (.string [110, 110]), .lit (.string [110, 110]), .lit (.string [110, 110]), .lit (.string [110, 110]), .lit (.string [110, 110]), .lit (.string [110]), .lit (.string [110]), .lit (.string [116, 116]), .lit (.string [97]), .lit (.string [97]), .lit (.string [97]), .lit (.string [97, 97]), .lit (.string [97, 97]), .lit (.string [97, 97]), .lit (.string [97, 97]), .lit (.string [97, 97]), .lit (.string [97, 97]), .lit (.string [116]), .lit (.string [116]), .lit (.string [116, 116]), .lit (.string [116]), .lit (.string [116]), .lit (.string [116, 110, 110]), .lit (.string [116, 116]), .lit (.string []), .lit (.string []), .lit (.string []), .lit (.string [97]), .lit (.string [97, 97]), .lit (.string [106]), .lit (.string []), .lit (.string [110]), .lit (.string []), .lit (.string [97]), .lit (.string []), .lit (.string [110])]
def laid_glean_gleanref_gives {H : Type} : DataW H := .agg [.lit (.string [110]), .lit (.string [116]), .lit (.string [97]), .lit (.string [97]), .lit (.string []), .lit (.string [97]), .lit (.string []), .lit (.string [97]), .lit (.string []), .lit (.string [110]), .lit (.string [110]), .lit (.string [97]), .lit (.string []), .lit (.string [110]), .lit (.string []), .lit (.string []), .lit (.string [107]), .lit (.string [107, 116]), .lit (.string [110]), .lit (.string [110]), .lit (.string [110]), .lit (.string [110]), .lit (.string [110]), .lit (.string [110]), .lit (.string [110]), .lit (.string [116]), .lit (.string [110]), .lit (.string [116]), .lit (.string [110]), .lit (.string [110]), .lit (.string [110]), .lit (.string [110]), .lit (.string [110]), .lit (.string [110]), .lit (.string [110]), .lit (.string [110]), .lit (.string [110]), .lit (.string [116]), .lit (.string [110]), .lit (.string [110]), .lit (.string [116]), .lit (.string [110]), .lit (.string [110]), .lit (.string [110]), .lit (.string []), .lit (.string []), .lit (.string []), .lit (.string []), .lit (.string []), .lit (.string []), .lit (.string [97]), .lit (.string []), .lit (.string []), .lit (.string [])]
def laid_glean_gleanref_reserved {H : Type} : DataW H := .agg [.lit (.string [66, 69, 71, 73, 78]), .lit (.string [69, 78, 68]), .lit (.string [102, 117, 110, 99, 116, 105, 111, 110]), .lit (.string [105, 102]), .lit (.string [101, 108, 115, 101]), .lit (.string [119, 104, 105, 108, 101]), .lit (.string [102, 111, 114]), .lit (.string [105, 110]), .lit (.string [112, 114, 105, 110, 116]), .lit (.string [100, 101, 108, 101, 116, 101]), .lit (.string [110, 101, 120, 116]), .lit (.string [101, 120, 105, 116]), .lit (.string [114, 101, 116, 117, 114, 110]), .lit (.string [98, 114, 101, 97, 107]), .lit (.string [99, 111, 110, 116, 105, 110, 117, 101]), .lit (.string [108, 101, 110, 103, 116, 104]), .lit (.string [115, 117, 98, 115, 116, 114]), .lit (.string [105, 110, 100, 101, 120]), .lit (.string [109, 97, 116, 99, 104]), .lit (.string [115, 112, 97, 110]), .lit (.string [115, 119, 97, 112]), .lit (.string [115, 112, 108, 105, 116]), .lit (.string [103, 101, 116, 108, 105, 110, 101]), .lit (.string [100, 114, 97, 119]), .lit (.string [78, 70])]
def laid_glean_gleanref_signs {H : Type} : DataW H := .agg [.lit (.string [60, 61]), .lit (.string [61, 61]), .lit (.string [33, 61]), .lit (.string [62, 61]), .lit (.string [33, 126]), .lit (.string [38, 38]), .lit (.string [124, 124]), .lit (.string [43, 61]), .lit (.string [45, 61]), .lit (.string [42, 61]), .lit (.string [47, 61]), .lit (.string [37, 61]), .lit (.string [43]), .lit (.string [45]), .lit (.string [42]), .lit (.string [47]), .lit (.string [37]), .lit (.string [46]), .lit (.string [60]), .lit (.string [62]), .lit (.string [126]), .lit (.string [33]), .lit (.string [63]), .lit (.string [58]), .lit (.string [61]), .lit (.string [40]), .lit (.string [41]), .lit (.string [91]), .lit (.string [93]), .lit (.string [123]), .lit (.string [125]), .lit (.string [44]), .lit (.string [59]), .lit (.string [36])]

/-- 'gleanlaw.Patterns': WHATEVER THE INPUT: true; the input reads as it did. -/
def patternsSpec : ChangeSpec := { name := "patterns", fn := fun _ => fun
  | [d] => { results := [.lit (.bool true)], args := [d] }
  | _ => none }
def patternsRow : OpenClaim := { program := "ytclkgoigmgkffaagreatdoor", sum := "8a8c0e53f52f9abe957943c8d6bdd32f72a5f3e8e9265d92f19d737dec0c4611", func := "glean/gleanlaw.Patterns", spec := "patterns", inPlace := ["internal/abi.NoEscape", "internal/bytealg.MakeNoZero"], unfollowed := true, recurses := true, named := ["math/bits.deBruijn64tab", "glean/gleanref.sorts", "glean/gleanref.takes", "glean/gleanref.gives", "internal/strconv.uint64pow10", "math/bits.deBruijn32tab", "glean/gleanref.signs", "glean/gleanref.reserved"], apart := false, laid := [("math/bits.deBruijn32tab", laid_math_bits_deBruijn32tab), ("math/bits.deBruijn64tab", laid_math_bits_deBruijn64tab), ("internal/strconv.uint64pow10", laid_internal_strconv_uint64pow10), ("glean/gleanref.sorts", laid_glean_gleanref_sorts), ("glean/gleanref.takes", laid_glean_gleanref_takes), ("glean/gleanref.gives", laid_glean_gleanref_gives), ("glean/gleanref.reserved", laid_glean_gleanref_reserved), ("glean/gleanref.signs", laid_glean_gleanref_signs)] }
def PatternsSaid : Prop := patternsRow.holds Tryz.pinned (OpenSpec.ofChange patternsSpec)

/-- ITS FALSE NEIGHBOUR: 'it returns false'. Refute it at one input. -/
def patternsWrong : ChangeSpec := { name := "patterns", fn := fun _ => fun
  | [d] => { results := [.lit (.bool false)], args := [d] }
  | _ => none }
def PatternsWrongFalsely : Prop := patternsRow.holds Tryz.pinned (OpenSpec.ofChange patternsWrong)

/-- 'gleanlaw.Packs': WHATEVER THE INPUT: true; the input reads as it did. -/
def packsSpec : ChangeSpec := { name := "packs", fn := fun _ => fun
  | [d1, d2] => { results := [.lit (.bool true)], args := [d1, d2] }
  | _ => none }
def packsRow : OpenClaim := { program := "ytclkgoigmgkffaagreatdoor", sum := "8a8c0e53f52f9abe957943c8d6bdd32f72a5f3e8e9265d92f19d737dec0c4611", func := "glean/gleanlaw.Packs", spec := "packs", inPlace := ["internal/abi.NoEscape", "internal/bytealg.MakeNoZero"], unfollowed := true, recurses := true, named := ["math/bits.deBruijn64tab", "glean/gleanref.sorts", "glean/gleanref.takes", "glean/gleanref.gives", "internal/strconv.uint64pow10", "math/bits.deBruijn32tab", "glean/gleanref.signs", "glean/gleanref.reserved"], apart := false, laid := [("math/bits.deBruijn32tab", laid_math_bits_deBruijn32tab), ("math/bits.deBruijn64tab", laid_math_bits_deBruijn64tab), ("internal/strconv.uint64pow10", laid_internal_strconv_uint64pow10), ("glean/gleanref.sorts", laid_glean_gleanref_sorts), ("glean/gleanref.takes", laid_glean_gleanref_takes), ("glean/gleanref.gives", laid_glean_gleanref_gives), ("glean/gleanref.reserved", laid_glean_gleanref_reserved), ("glean/gleanref.signs", laid_glean_gleanref_signs)] }
def PacksSaid : Prop := packsRow.holds Tryz.pinned (OpenSpec.ofChange packsSpec)

/-- ITS FALSE NEIGHBOUR: 'it returns false'. Refute it at one input. -/
def packsWrong : ChangeSpec := { name := "packs", fn := fun _ => fun
  | [d1, d2] => { results := [.lit (.bool false)], args := [d1, d2] }
  | _ => none }
def PacksWrongFalsely : Prop := packsRow.holds Tryz.pinned (OpenSpec.ofChange packsWrong)

/-- 'gleanlaw.Checks': WHATEVER THE INPUT: true; the input reads as it did. -/
def checksSpec : ChangeSpec := { name := "checks", fn := fun _ => fun
  | [d1, d2] => { results := [.lit (.bool true)], args := [d1, d2] }
  | _ => none }
def checksRow : OpenClaim := { program := "ytclkgoigmgkffaagreatdoor", sum := "8a8c0e53f52f9abe957943c8d6bdd32f72a5f3e8e9265d92f19d737dec0c4611", func := "glean/gleanlaw.Checks", spec := "checks", inPlace := ["internal/abi.NoEscape", "internal/bytealg.MakeNoZero"], unfollowed := true, recurses := true, named := ["math/bits.deBruijn64tab", "glean/gleanref.sorts", "glean/gleanref.takes", "glean/gleanref.gives", "internal/strconv.uint64pow10", "math/bits.deBruijn32tab", "glean/gleanref.signs", "glean/gleanref.reserved"], apart := false, laid := [("math/bits.deBruijn32tab", laid_math_bits_deBruijn32tab), ("math/bits.deBruijn64tab", laid_math_bits_deBruijn64tab), ("internal/strconv.uint64pow10", laid_internal_strconv_uint64pow10), ("glean/gleanref.sorts", laid_glean_gleanref_sorts), ("glean/gleanref.takes", laid_glean_gleanref_takes), ("glean/gleanref.gives", laid_glean_gleanref_gives), ("glean/gleanref.reserved", laid_glean_gleanref_reserved), ("glean/gleanref.signs", laid_glean_gleanref_signs)] }
def ChecksSaid : Prop := checksRow.holds Tryz.pinned (OpenSpec.ofChange checksSpec)

/-- ITS FALSE NEIGHBOUR: 'it returns false'. Refute it at one input. -/
def checksWrong : ChangeSpec := { name := "checks", fn := fun _ => fun
  | [d1, d2] => { results := [.lit (.bool false)], args := [d1, d2] }
  | _ => none }
def ChecksWrongFalsely : Prop := checksRow.holds Tryz.pinned (OpenSpec.ofChange checksWrong)

/-- 'gleanlaw.Sound': WHATEVER THE INPUT: true; the input reads as it did. -/
def soundSpec : ChangeSpec := { name := "sound", fn := fun _ => fun
  | [d1, d2, d3, d4] => { results := [.lit (.bool true)], args := [d1, d2, d3, d4] }
  | _ => none }
def soundRow : OpenClaim := { program := "ytclkgoigmgkffaagreatdoor", sum := "8a8c0e53f52f9abe957943c8d6bdd32f72a5f3e8e9265d92f19d737dec0c4611", func := "glean/gleanlaw.Sound", spec := "sound", inPlace := ["internal/abi.NoEscape", "internal/bytealg.MakeNoZero"], unfollowed := true, recurses := true, named := ["math/bits.deBruijn64tab", "glean/gleanref.sorts", "glean/gleanref.takes", "glean/gleanref.gives", "internal/strconv.uint64pow10", "math/bits.deBruijn32tab"], apart := false, laid := [("math/bits.deBruijn32tab", laid_math_bits_deBruijn32tab), ("math/bits.deBruijn64tab", laid_math_bits_deBruijn64tab), ("internal/strconv.uint64pow10", laid_internal_strconv_uint64pow10), ("glean/gleanref.sorts", laid_glean_gleanref_sorts), ("glean/gleanref.takes", laid_glean_gleanref_takes), ("glean/gleanref.gives", laid_glean_gleanref_gives)] }
def SoundSaid : Prop := soundRow.holds Tryz.pinned (OpenSpec.ofChange soundSpec)

/-- ITS FALSE NEIGHBOUR: 'it returns false'. Refute it at one input. -/
def soundWrong : ChangeSpec := { name := "sound", fn := fun _ => fun
  | [d1, d2, d3, d4] => { results := [.lit (.bool false)], args := [d1, d2, d3, d4] }
  | _ => none }
def SoundWrongFalsely : Prop := soundRow.holds Tryz.pinned (OpenSpec.ofChange soundWrong)

/- THE SECOND FORM. 'bulk': how many values and letters a reading holds, each counted each time it is reached (what is shared counts as often as it is met; a slice's spare places count too). A statement '..UptoSaid' is the law's where the arguments, and the package variables that the reading takes, are together of bulk at most 1048576: NARROWER than '..Said'. Prove '..Said' where nothing that the law and all that it calls make is longer than what came in: it says more and counts as full. Else prove '..UptoSaid'. A law counts once. -/
mutual
def uptoBulk {H : Type} : DataW H → Nat
  | .lit (.string bytes) => bytes.length + 1
  | .lit _ => 1
  | .nil => 1
  | .ptr d => uptoBulk d + 1
  | .slice elems spare => uptoBulkAll elems + uptoBulkAll spare + 1
  | .agg parts => uptoBulkAll parts + 1
  | .iface _ d => uptoBulk d + 1
  | .map entries => uptoBulkEntries entries + 1
  | .held _ => 1
def uptoBulkAll {H : Type} : List (DataW H) → Nat
  | [] => 0
  | d :: r => uptoBulk d + uptoBulkAll r
def uptoBulkEntries {H : Type} : List (Lit × DataW H) → Nat
  | [] => 0
  | x :: r => uptoBulkEntry x + uptoBulkEntries r
def uptoBulkEntry {H : Type} : Lit × DataW H → Nat
  | (.string bytes, d) => bytes.length + uptoBulk d + 1
  | (_, d) => uptoBulk d + 1
 end
def uptoSmall : (H : Type) → List (DataW H) → Bool := fun _ ds => decide (uptoBulkAll ds ≤ 1048576)
def OpenSpec.upto (s : _root_.Go.ChangeSpec) : _root_.Go.OpenSpec := { _root_.Go.OpenSpec.ofChange s with cond := some uptoSmall }

/-- 'gleanlaw.Patterns', WHERE WHAT IT READS IS OF BULK AT MOST 1048576: true; the input reads as it did. -/
def patternsUptoRow : OpenClaim := { program := "ytclkgoigmgkffaagreatdoor", sum := "8a8c0e53f52f9abe957943c8d6bdd32f72a5f3e8e9265d92f19d737dec0c4611", func := "glean/gleanlaw.Patterns", spec := "patterns", inPlace := ["internal/abi.NoEscape", "internal/bytealg.MakeNoZero"], unfollowed := true, recurses := true, named := ["math/bits.deBruijn64tab", "glean/gleanref.sorts", "glean/gleanref.takes", "glean/gleanref.gives", "internal/strconv.uint64pow10", "math/bits.deBruijn32tab", "glean/gleanref.signs", "glean/gleanref.reserved"], apart := false, laid := [("math/bits.deBruijn32tab", laid_math_bits_deBruijn32tab), ("math/bits.deBruijn64tab", laid_math_bits_deBruijn64tab), ("internal/strconv.uint64pow10", laid_internal_strconv_uint64pow10), ("glean/gleanref.sorts", laid_glean_gleanref_sorts), ("glean/gleanref.takes", laid_glean_gleanref_takes), ("glean/gleanref.gives", laid_glean_gleanref_gives), ("glean/gleanref.reserved", laid_glean_gleanref_reserved), ("glean/gleanref.signs", laid_glean_gleanref_signs)], narrowed := true }
def PatternsUptoSaid : Prop := patternsUptoRow.holds Tryz.pinned (OpenSpec.upto patternsSpec)

/-- 'gleanlaw.Packs', WHERE WHAT IT READS IS OF BULK AT MOST 1048576: true; the input reads as it did. -/
def packsUptoRow : OpenClaim := { program := "ytclkgoigmgkffaagreatdoor", sum := "8a8c0e53f52f9abe957943c8d6bdd32f72a5f3e8e9265d92f19d737dec0c4611", func := "glean/gleanlaw.Packs", spec := "packs", inPlace := ["internal/abi.NoEscape", "internal/bytealg.MakeNoZero"], unfollowed := true, recurses := true, named := ["math/bits.deBruijn64tab", "glean/gleanref.sorts", "glean/gleanref.takes", "glean/gleanref.gives", "internal/strconv.uint64pow10", "math/bits.deBruijn32tab", "glean/gleanref.signs", "glean/gleanref.reserved"], apart := false, laid := [("math/bits.deBruijn32tab", laid_math_bits_deBruijn32tab), ("math/bits.deBruijn64tab", laid_math_bits_deBruijn64tab), ("internal/strconv.uint64pow10", laid_internal_strconv_uint64pow10), ("glean/gleanref.sorts", laid_glean_gleanref_sorts), ("glean/gleanref.takes", laid_glean_gleanref_takes), ("glean/gleanref.gives", laid_glean_gleanref_gives), ("glean/gleanref.reserved", laid_glean_gleanref_reserved), ("glean/gleanref.signs", laid_glean_gleanref_signs)], narrowed := true }
def PacksUptoSaid : Prop := packsUptoRow.holds Tryz.pinned (OpenSpec.upto packsSpec)

/-- 'gleanlaw.Checks', WHERE WHAT IT READS IS OF BULK AT MOST 1048576: true; the input reads as it did. -/
def checksUptoRow : OpenClaim := { program := "ytclkgoigmgkffaagreatdoor", sum := "8a8c0e53f52f9abe957943c8d6bdd32f72a5f3e8e9265d92f19d737dec0c4611", func := "glean/gleanlaw.Checks", spec := "checks", inPlace := ["internal/abi.NoEscape", "internal/bytealg.MakeNoZero"], unfollowed := true, recurses := true, named := ["math/bits.deBruijn64tab", "glean/gleanref.sorts", "glean/gleanref.takes", "glean/gleanref.gives", "internal/strconv.uint64pow10", "math/bits.deBruijn32tab", "glean/gleanref.signs", "glean/gleanref.reserved"], apart := false, laid := [("math/bits.deBruijn32tab", laid_math_bits_deBruijn32tab), ("math/bits.deBruijn64tab", laid_math_bits_deBruijn64tab), ("internal/strconv.uint64pow10", laid_internal_strconv_uint64pow10), ("glean/gleanref.sorts", laid_glean_gleanref_sorts), ("glean/gleanref.takes", laid_glean_gleanref_takes), ("glean/gleanref.gives", laid_glean_gleanref_gives), ("glean/gleanref.reserved", laid_glean_gleanref_reserved), ("glean/gleanref.signs", laid_glean_gleanref_signs)], narrowed := true }
def ChecksUptoSaid : Prop := checksUptoRow.holds Tryz.pinned (OpenSpec.upto checksSpec)

/-- 'gleanlaw.Sound', WHERE WHAT IT READS IS OF BULK AT MOST 1048576: true; the input reads as it did. -/
def soundUptoRow : OpenClaim := { program := "ytclkgoigmgkffaagreatdoor", sum := "8a8c0e53f52f9abe957943c8d6bdd32f72a5f3e8e9265d92f19d737dec0c4611", func := "glean/gleanlaw.Sound", spec := "sound", inPlace := ["internal/abi.NoEscape", "internal/bytealg.MakeNoZero"], unfollowed := true, recurses := true, named := ["math/bits.deBruijn64tab", "glean/gleanref.sorts", "glean/gleanref.takes", "glean/gleanref.gives", "internal/strconv.uint64pow10", "math/bits.deBruijn32tab"], apart := false, laid := [("math/bits.deBruijn32tab", laid_math_bits_deBruijn32tab), ("math/bits.deBruijn64tab", laid_math_bits_deBruijn64tab), ("internal/strconv.uint64pow10", laid_internal_strconv_uint64pow10), ("glean/gleanref.sorts", laid_glean_gleanref_sorts), ("glean/gleanref.takes", laid_glean_gleanref_takes), ("glean/gleanref.gives", laid_glean_gleanref_gives)], narrowed := true }
def SoundUptoSaid : Prop := soundUptoRow.holds Tryz.pinned (OpenSpec.upto soundSpec)

end Rows
end Go.Proofs.YtclkgoigmgkffaaGreatDoor
