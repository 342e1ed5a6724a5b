/-
  NARROWER THAN 'FOR EVERY INPUT', by the rows' own cells (each row's printed sentence says how): WrittenAddr: laid · WrittenPrefix: laid · WrittenParses: laid · WrittenOnly: laid · WrittenNumber: laid · WrittenWords: laid · WrittenApart: laid.
  DERIVED. THE GIVEN ROWS OF THIS SEAT. 7 by the template 'for every input the law returns true; each argument reads behind the call as it read before'; 0 by the template 'total and deterministic' (their statements: YtkdcajibehpeaaaDoorTotals.lean).
  GIVEN WITH THE SEED: the statements are not yours to turn. If you find one false, say at which input.
  Laid BY PROGRAM, IN A SANDBOX (cutbox-rows.mjs): the forced cells as the released guide's own fill.sh prints them over the translation e3f0d26706983316… (all of the seat's roots in one cut). By AI agents, Wed Nov 11 2026. No macro, syntax, notation, axiom, sorry.
-/
import Derived.Test.YtkdcajibehpeaaaDoorChecked
import GoSem.Claim
import GoSem.ClaimJoined
import GoSem.ClaimMapViews
import Derived.JoinedTies
import Derived.KernelRfl
namespace Go.Proofs.YtkdcajibehpeaaaDoor
/- THE CELL 'sum', in the pinned program and in every row, IS THE sha256 OF THE DUMP (.gsa) THAT YtkdcajibehpeaaaDoorProg.lean LOADS. Nothing in Lean hashes anything: it is a label: what it is worth is what the hold of that sum in a sandbox is worth. -/
noncomputable def Tryd.pinned : Pinned := { name := "ytkdcajibehpeaaadoor", sum := "e3f0d26706983316ef819708f1f71114d5a91ab004a6a4fc5d4aa5d5da257b70", checked := Tryd.checked }
namespace Rows
def none {H : Type} : Left H := { results := [], args := [] }

/- WHAT THE LISTED PACKAGE-LEVEL VARIABLES READ AS WHEN THE CALL BEGINS. Each datum BY PROGRAM (the guide's laid-datum.mjs) off the statement by which the dump's own 'gosem.cut.vars' lays the variable. In a bare row this is a premise. The card (YtkdcajibehpeaaaDoorCards.lean) ties it to the program's text. -/
def laid_math_bits_deBruijn32tab {H : Type} : DataW H := .agg [.lit (.int .u8 0), .lit (.int .u8 1), .lit (.int .u8 28), .lit (.int .u8 2), .lit (.int .u8 29), .lit (.int .u8 14), .lit (.int .u8 24), .lit (.int .u8 3), .lit (.int .u8 30), .lit (.int .u8 22), .lit (.int .u8 20), .lit (.int .u8 15), .lit (.int .u8 25), .lit (.int .u8 17), .lit (.int .u8 4), .lit (.int .u8 8), .lit (.int .u8 31), .lit (.int .u8 27), .lit (.int .u8 13), .lit (.int .u8 23), .lit (.int .u8 21), .lit (.int .u8 19), .lit (.int .u8 16), .lit (.int .u8 7), .lit (.int .u8 26), .lit (.int .u8 12), .lit (.int .u8 18), .lit (.int .u8 6), .lit (.int .u8 11), .lit (.int .u8 5), .lit (.int .u8 10), .lit (.int .u8 9)]
def laid_math_bits_deBruijn64tab {H : Type} : DataW H := .agg [.lit (.int .u8 0), .lit (.int .u8 1), .lit (.int .u8 56), .lit (.int .u8 2), .lit (.int .u8 57), .lit (.int .u8 49), .lit (.int .u8 28), .lit (.int .u8 3), .lit (.int .u8 61), .lit (.int .u8 58), .lit (.int .u8 42), .lit (.int .u8 50), .lit (.int .u8 38), .lit (.int .u8 29), .lit (.int .u8 17), .lit (.int .u8 4), .lit (.int .u8 62), .lit (.int .u8 47), .lit (.int .u8 59), .lit (.int .u8 36), .lit (.int .u8 45), .lit (.int .u8 43), .lit (.int .u8 51), .lit (.int .u8 22), .lit (.int .u8 53), .lit (.int .u8 39), .lit (.int .u8 33), .lit (.int .u8 30), .lit (.int .u8 24), .lit (.int .u8 18), .lit (.int .u8 12), .lit (.int .u8 5), .lit (.int .u8 63), .lit (.int .u8 55), .lit (.int .u8 48), .lit (.int .u8 27), .lit (.int .u8 60), .lit (.int .u8 41), .lit (.int .u8 37), .lit (.int .u8 16), .lit (.int .u8 46), .lit (.int .u8 35), .lit (.int .u8 44), .lit (.int .u8 21), .lit (.int .u8 52), .lit (.int .u8 32), .lit (.int .u8 23), .lit (.int .u8 11), .lit (.int .u8 54), .lit (.int .u8 26), .lit (.int .u8 40), .lit (.int .u8 15), .lit (.int .u8 34), .lit (.int .u8 20), .lit (.int .u8 31), .lit (.int .u8 10), .lit (.int .u8 25), .lit (.int .u8 14), .lit (.int .u8 19), .lit (.int .u8 9), .lit (.int .u8 13), .lit (.int .u8 8), .lit (.int .u8 7), .lit (.int .u8 6)]
def laid_internal_strconv_uint64pow10 {H : Type} : DataW H := .agg [.lit (.int .u64 1), .lit (.int .u64 10), .lit (.int .u64 100), .lit (.int .u64 1000), .lit (.int .u64 10000), .lit (.int .u64 100000), .lit (.int .u64 1000000), .lit (.int .u64 10000000), .lit (.int .u64 100000000), .lit (.int .u64 1000000000), .lit (.int .u64 10000000000), .lit (.int .u64 100000000000), .lit (.int .u64 1000000000000), .lit (.int .u64 10000000000000), .lit (.int .u64 100000000000000), .lit (.int .u64 1000000000000000), .lit (.int .u64 10000000000000000), .lit (.int .u64 100000000000000000), .lit (.int .u64 1000000000000000000), .lit (.int .u64 10000000000000000000)]

/-- 'pigeonholelaw03.WrittenAddr': WHATEVER THE INPUT: true; the input reads as it did. -/
def writtenAddrSpec : ChangeSpec := { name := "writtenAddr", fn := fun _ => fun
  | [d1, d2] => { results := [.lit (.bool true)], args := [d1, d2] }
  | _ => none }
def writtenAddrRow : OpenClaim := { program := "ytkdcajibehpeaaadoor", sum := "e3f0d26706983316ef819708f1f71114d5a91ab004a6a4fc5d4aa5d5da257b70", func := "pigeonhole/pigeonholelaw03.WrittenAddr", spec := "writtenAddr", inPlace := ["internal/bytealg.IndexByteString", "internal/abi.NoEscape", "internal/bytealg.MakeNoZero", "internal/bytealg.IndexString"], unfollowed := true, recurses := true, named := ["internal/strconv.uint64pow10", "math/bits.deBruijn32tab", "math/bits.deBruijn64tab", "internal/bytealg.MaxLen"], apart := false, laid := [("math/bits.deBruijn32tab", laid_math_bits_deBruijn32tab), ("math/bits.deBruijn64tab", laid_math_bits_deBruijn64tab), ("internal/strconv.uint64pow10", laid_internal_strconv_uint64pow10)] }
def WrittenAddrSaid : Prop := writtenAddrRow.holds Tryd.pinned (OpenSpec.ofChange writtenAddrSpec)

/-- ITS FALSE NEIGHBOUR: 'it returns false'. Refute it at one input. -/
def writtenAddrWrong : ChangeSpec := { name := "writtenAddr", fn := fun _ => fun
  | [d1, d2] => { results := [.lit (.bool false)], args := [d1, d2] }
  | _ => none }
def WrittenAddrWrongFalsely : Prop := writtenAddrRow.holds Tryd.pinned (OpenSpec.ofChange writtenAddrWrong)

/-- 'pigeonholelaw03.WrittenPrefix': WHATEVER THE INPUT: true; the input reads as it did. -/
def writtenPrefixSpec : ChangeSpec := { name := "writtenPrefix", fn := fun _ => fun
  | [d1, d2] => { results := [.lit (.bool true)], args := [d1, d2] }
  | _ => none }
def writtenPrefixRow : OpenClaim := { program := "ytkdcajibehpeaaadoor", sum := "e3f0d26706983316ef819708f1f71114d5a91ab004a6a4fc5d4aa5d5da257b70", func := "pigeonhole/pigeonholelaw03.WrittenPrefix", spec := "writtenPrefix", inPlace := ["internal/bytealg.IndexByteString", "internal/abi.NoEscape", "internal/bytealg.MakeNoZero", "internal/bytealg.IndexString"], unfollowed := true, recurses := true, named := ["internal/strconv.uint64pow10", "math/bits.deBruijn32tab", "math/bits.deBruijn64tab", "internal/bytealg.MaxLen"], apart := false, laid := [("math/bits.deBruijn32tab", laid_math_bits_deBruijn32tab), ("math/bits.deBruijn64tab", laid_math_bits_deBruijn64tab), ("internal/strconv.uint64pow10", laid_internal_strconv_uint64pow10)] }
def WrittenPrefixSaid : Prop := writtenPrefixRow.holds Tryd.pinned (OpenSpec.ofChange writtenPrefixSpec)

/-- ITS FALSE NEIGHBOUR: 'it returns false'. Refute it at one input. -/
def writtenPrefixWrong : ChangeSpec := { name := "writtenPrefix", fn := fun _ => fun
  | [d1, d2] => { results := [.lit (.bool false)], args := [d1, d2] }
  | _ => none }
def WrittenPrefixWrongFalsely : Prop := writtenPrefixRow.holds Tryd.pinned (OpenSpec.ofChange writtenPrefixWrong)

/-- 'pigeonholelaw03.WrittenParses': WHATEVER THE INPUT: true; the input reads as it did. -/
def writtenParsesSpec : ChangeSpec := { name := "writtenParses", fn := fun _ => fun
  | [d1, d2] => { results := [.lit (.bool true)], args := [d1, d2] }
  | _ => none }
def writtenParsesRow : OpenClaim := { program := "ytkdcajibehpeaaadoor", sum := "e3f0d26706983316ef819708f1f71114d5a91ab004a6a4fc5d4aa5d5da257b70", func := "pigeonhole/pigeonholelaw03.WrittenParses", spec := "writtenParses", inPlace := ["internal/bytealg.IndexByteString", "internal/bytealg.IndexString", "internal/abi.NoEscape", "internal/bytealg.MakeNoZero"], unfollowed := true, recurses := true, named := ["internal/bytealg.MaxLen", "internal/strconv.uint64pow10", "math/bits.deBruijn32tab", "math/bits.deBruijn64tab"], apart := false, laid := [("math/bits.deBruijn32tab", laid_math_bits_deBruijn32tab), ("math/bits.deBruijn64tab", laid_math_bits_deBruijn64tab), ("internal/strconv.uint64pow10", laid_internal_strconv_uint64pow10)] }
def WrittenParsesSaid : Prop := writtenParsesRow.holds Tryd.pinned (OpenSpec.ofChange writtenParsesSpec)

/-- ITS FALSE NEIGHBOUR: 'it returns false'. Refute it at one input. -/
def writtenParsesWrong : ChangeSpec := { name := "writtenParses", fn := fun _ => fun
  | [d1, d2] => { results := [.lit (.bool false)], args := [d1, d2] }
  | _ => none }
def WrittenParsesWrongFalsely : Prop := writtenParsesRow.holds Tryd.pinned (OpenSpec.ofChange writtenParsesWrong)

/-- 'pigeonholelaw03.WrittenOnly': WHATEVER THE INPUT: true; the input reads as it did. -/
def writtenOnlySpec : ChangeSpec := { name := "writtenOnly", fn := fun _ => fun
  | [d1, d2] => { results := [.lit (.bool true)], args := [d1, d2] }
  | _ => none }
def writtenOnlyRow : OpenClaim := { program := "ytkdcajibehpeaaadoor", sum := "e3f0d26706983316ef819708f1f71114d5a91ab004a6a4fc5d4aa5d5da257b70", func := "pigeonhole/pigeonholelaw03.WrittenOnly", spec := "writtenOnly", inPlace := ["internal/bytealg.IndexByteString", "internal/bytealg.IndexString", "internal/abi.NoEscape", "internal/bytealg.MakeNoZero"], unfollowed := true, recurses := true, named := ["internal/bytealg.MaxLen", "internal/strconv.uint64pow10", "math/bits.deBruijn32tab", "math/bits.deBruijn64tab"], apart := false, laid := [("math/bits.deBruijn32tab", laid_math_bits_deBruijn32tab), ("math/bits.deBruijn64tab", laid_math_bits_deBruijn64tab), ("internal/strconv.uint64pow10", laid_internal_strconv_uint64pow10)] }
def WrittenOnlySaid : Prop := writtenOnlyRow.holds Tryd.pinned (OpenSpec.ofChange writtenOnlySpec)

/-- ITS FALSE NEIGHBOUR: 'it returns false'. Refute it at one input. -/
def writtenOnlyWrong : ChangeSpec := { name := "writtenOnly", fn := fun _ => fun
  | [d1, d2] => { results := [.lit (.bool false)], args := [d1, d2] }
  | _ => none }
def WrittenOnlyWrongFalsely : Prop := writtenOnlyRow.holds Tryd.pinned (OpenSpec.ofChange writtenOnlyWrong)

/-- 'pigeonholelaw03.WrittenNumber': WHATEVER THE INPUT: true; the input reads as it did. -/
def writtenNumberSpec : ChangeSpec := { name := "writtenNumber", fn := fun _ => fun
  | [d1, d2] => { results := [.lit (.bool true)], args := [d1, d2] }
  | _ => none }
def writtenNumberRow : OpenClaim := { program := "ytkdcajibehpeaaadoor", sum := "e3f0d26706983316ef819708f1f71114d5a91ab004a6a4fc5d4aa5d5da257b70", func := "pigeonhole/pigeonholelaw03.WrittenNumber", spec := "writtenNumber", inPlace := ["internal/bytealg.IndexByteString", "internal/bytealg.IndexString", "internal/abi.NoEscape", "internal/bytealg.MakeNoZero"], unfollowed := true, recurses := true, named := ["internal/bytealg.MaxLen", "internal/strconv.uint64pow10", "math/bits.deBruijn32tab", "math/bits.deBruijn64tab"], apart := false, laid := [("math/bits.deBruijn32tab", laid_math_bits_deBruijn32tab), ("math/bits.deBruijn64tab", laid_math_bits_deBruijn64tab), ("internal/strconv.uint64pow10", laid_internal_strconv_uint64pow10)] }
def WrittenNumberSaid : Prop := writtenNumberRow.holds Tryd.pinned (OpenSpec.ofChange writtenNumberSpec)

/-- ITS FALSE NEIGHBOUR: 'it returns false'. Refute it at one input. -/
def writtenNumberWrong : ChangeSpec := { name := "writtenNumber", fn := fun _ => fun
  | [d1, d2] => { results := [.lit (.bool false)], args := [d1, d2] }
  | _ => none }
def WrittenNumberWrongFalsely : Prop := writtenNumberRow.holds Tryd.pinned (OpenSpec.ofChange writtenNumberWrong)

/-- 'pigeonholelaw03.WrittenWords': WHATEVER THE INPUT: true; the input reads as it did. -/
def writtenWordsSpec : ChangeSpec := { name := "writtenWords", fn := fun _ => fun
  | [d1, d2, d3] => { results := [.lit (.bool true)], args := [d1, d2, d3] }
  | _ => none }
def writtenWordsRow : OpenClaim := { program := "ytkdcajibehpeaaadoor", sum := "e3f0d26706983316ef819708f1f71114d5a91ab004a6a4fc5d4aa5d5da257b70", func := "pigeonhole/pigeonholelaw03.WrittenWords", spec := "writtenWords", inPlace := ["internal/bytealg.IndexByteString", "internal/bytealg.IndexString", "internal/abi.NoEscape", "internal/bytealg.MakeNoZero"], unfollowed := true, recurses := true, named := ["internal/bytealg.MaxLen", "internal/strconv.uint64pow10", "math/bits.deBruijn32tab", "math/bits.deBruijn64tab"], apart := false, laid := [("math/bits.deBruijn32tab", laid_math_bits_deBruijn32tab), ("math/bits.deBruijn64tab", laid_math_bits_deBruijn64tab), ("internal/strconv.uint64pow10", laid_internal_strconv_uint64pow10)] }
def WrittenWordsSaid : Prop := writtenWordsRow.holds Tryd.pinned (OpenSpec.ofChange writtenWordsSpec)

/-- ITS FALSE NEIGHBOUR: 'it returns false'. Refute it at one input. -/
def writtenWordsWrong : ChangeSpec := { name := "writtenWords", fn := fun _ => fun
  | [d1, d2, d3] => { results := [.lit (.bool false)], args := [d1, d2, d3] }
  | _ => none }
def WrittenWordsWrongFalsely : Prop := writtenWordsRow.holds Tryd.pinned (OpenSpec.ofChange writtenWordsWrong)

/-- 'pigeonholelaw03.WrittenApart': WHATEVER THE INPUT: true; the input reads as it did. -/
def writtenApartSpec : ChangeSpec := { name := "writtenApart", fn := fun _ => fun
  | [d1, d2, d3] => { results := [.lit (.bool true)], args := [d1, d2, d3] }
  | _ => none }
def writtenApartRow : OpenClaim := { program := "ytkdcajibehpeaaadoor", sum := "e3f0d26706983316ef819708f1f71114d5a91ab004a6a4fc5d4aa5d5da257b70", func := "pigeonhole/pigeonholelaw03.WrittenApart", spec := "writtenApart", inPlace := ["internal/bytealg.IndexByteString", "internal/bytealg.IndexString", "internal/abi.NoEscape", "internal/bytealg.MakeNoZero"], unfollowed := true, recurses := true, named := ["internal/bytealg.MaxLen", "internal/strconv.uint64pow10", "math/bits.deBruijn32tab", "math/bits.deBruijn64tab"], apart := false, laid := [("math/bits.deBruijn32tab", laid_math_bits_deBruijn32tab), ("math/bits.deBruijn64tab", laid_math_bits_deBruijn64tab), ("internal/strconv.uint64pow10", laid_internal_strconv_uint64pow10)] }
def WrittenApartSaid : Prop := writtenApartRow.holds Tryd.pinned (OpenSpec.ofChange writtenApartSpec)

/-- ITS FALSE NEIGHBOUR: 'it returns false'. Refute it at one input. -/
def writtenApartWrong : ChangeSpec := { name := "writtenApart", fn := fun _ => fun
  | [d1, d2, d3] => { results := [.lit (.bool false)], args := [d1, d2, d3] }
  | _ => none }
def WrittenApartWrongFalsely : Prop := writtenApartRow.holds Tryd.pinned (OpenSpec.ofChange writtenApartWrong)

/- THE SECOND FORM. 'bulk': how many values and letters a reading holds, each counted each time it is reached (what is shared counts as often as it is met; a slice's spare places count too). A statement '..UptoSaid' is the law's where the arguments, and the package variables that the reading takes, are together of bulk at most 1048576: NARROWER than '..Said'. Prove '..Said' where nothing that the law and all that it calls make is longer than what came in: it says more and counts as full. Else prove '..UptoSaid'. A law counts once. -/
mutual
def uptoBulk {H : Type} : DataW H → Nat
  | .lit (.string bytes) => bytes.length + 1
  | .lit _ => 1
  | .nil => 1
  | .ptr d => uptoBulk d + 1
  | .slice elems spare => uptoBulkAll elems + uptoBulkAll spare + 1
  | .agg parts => uptoBulkAll parts + 1
  | .iface _ d => uptoBulk d + 1
  | .map entries => uptoBulkEntries entries + 1
  | .held _ => 1
def uptoBulkAll {H : Type} : List (DataW H) → Nat
  | [] => 0
  | d :: r => uptoBulk d + uptoBulkAll r
def uptoBulkEntries {H : Type} : List (Lit × DataW H) → Nat
  | [] => 0
  | x :: r => uptoBulkEntry x + uptoBulkEntries r
def uptoBulkEntry {H : Type} : Lit × DataW H → Nat
  | (.string bytes, d) => bytes.length + uptoBulk d + 1
  | (_, d) => uptoBulk d + 1
 end
def uptoSmall : (H : Type) → List (DataW H) → Bool := fun _ ds => decide (uptoBulkAll ds ≤ 1048576)
def OpenSpec.upto (s : _root_.Go.ChangeSpec) : _root_.Go.OpenSpec := { _root_.Go.OpenSpec.ofChange s with cond := some uptoSmall }

/-- 'pigeonholelaw03.WrittenAddr', WHERE WHAT IT READS IS OF BULK AT MOST 1048576: true; the input reads as it did. -/
def writtenAddrUptoRow : OpenClaim := { program := "ytkdcajibehpeaaadoor", sum := "e3f0d26706983316ef819708f1f71114d5a91ab004a6a4fc5d4aa5d5da257b70", func := "pigeonhole/pigeonholelaw03.WrittenAddr", spec := "writtenAddr", inPlace := ["internal/bytealg.IndexByteString", "internal/abi.NoEscape", "internal/bytealg.MakeNoZero", "internal/bytealg.IndexString"], unfollowed := true, recurses := true, named := ["internal/strconv.uint64pow10", "math/bits.deBruijn32tab", "math/bits.deBruijn64tab", "internal/bytealg.MaxLen"], apart := false, laid := [("math/bits.deBruijn32tab", laid_math_bits_deBruijn32tab), ("math/bits.deBruijn64tab", laid_math_bits_deBruijn64tab), ("internal/strconv.uint64pow10", laid_internal_strconv_uint64pow10)], narrowed := true }
def WrittenAddrUptoSaid : Prop := writtenAddrUptoRow.holds Tryd.pinned (OpenSpec.upto writtenAddrSpec)

/-- 'pigeonholelaw03.WrittenPrefix', WHERE WHAT IT READS IS OF BULK AT MOST 1048576: true; the input reads as it did. -/
def writtenPrefixUptoRow : OpenClaim := { program := "ytkdcajibehpeaaadoor", sum := "e3f0d26706983316ef819708f1f71114d5a91ab004a6a4fc5d4aa5d5da257b70", func := "pigeonhole/pigeonholelaw03.WrittenPrefix", spec := "writtenPrefix", inPlace := ["internal/bytealg.IndexByteString", "internal/abi.NoEscape", "internal/bytealg.MakeNoZero", "internal/bytealg.IndexString"], unfollowed := true, recurses := true, named := ["internal/strconv.uint64pow10", "math/bits.deBruijn32tab", "math/bits.deBruijn64tab", "internal/bytealg.MaxLen"], apart := false, laid := [("math/bits.deBruijn32tab", laid_math_bits_deBruijn32tab), ("math/bits.deBruijn64tab", laid_math_bits_deBruijn64tab), ("internal/strconv.uint64pow10", laid_internal_strconv_uint64pow10)], narrowed := true }
def WrittenPrefixUptoSaid : Prop := writtenPrefixUptoRow.holds Tryd.pinned (OpenSpec.upto writtenPrefixSpec)

/-- 'pigeonholelaw03.WrittenParses', WHERE WHAT IT READS IS OF BULK AT MOST 1048576: true; the input reads as it did. -/
def writtenParsesUptoRow : OpenClaim := { program := "ytkdcajibehpeaaadoor", sum := "e3f0d26706983316ef819708f1f71114d5a91ab004a6a4fc5d4aa5d5da257b70", func := "pigeonhole/pigeonholelaw03.WrittenParses", spec := "writtenParses", inPlace := ["internal/bytealg.IndexByteString", "internal/bytealg.IndexString", "internal/abi.NoEscape", "internal/bytealg.MakeNoZero"], unfollowed := true, recurses := true, named := ["internal/bytealg.MaxLen", "internal/strconv.uint64pow10", "math/bits.deBruijn32tab", "math/bits.deBruijn64tab"], apart := false, laid := [("math/bits.deBruijn32tab", laid_math_bits_deBruijn32tab), ("math/bits.deBruijn64tab", laid_math_bits_deBruijn64tab), ("internal/strconv.uint64pow10", laid_internal_strconv_uint64pow10)], narrowed := true }
def WrittenParsesUptoSaid : Prop := writtenParsesUptoRow.holds Tryd.pinned (OpenSpec.upto writtenParsesSpec)

/-- 'pigeonholelaw03.WrittenOnly', WHERE WHAT IT READS IS OF BULK AT MOST 1048576: true; the input reads as it did. -/
def writtenOnlyUptoRow : OpenClaim := { program := "ytkdcajibehpeaaadoor", sum := "e3f0d26706983316ef819708f1f71114d5a91ab004a6a4fc5d4aa5d5da257b70", func := "pigeonhole/pigeonholelaw03.WrittenOnly", spec := "writtenOnly", inPlace := ["internal/bytealg.IndexByteString", "internal/bytealg.IndexString", "internal/abi.NoEscape", "internal/bytealg.MakeNoZero"], unfollowed := true, recurses := true, named := ["internal/bytealg.MaxLen", "internal/strconv.uint64pow10", "math/bits.deBruijn32tab", "math/bits.deBruijn64tab"], apart := false, laid := [("math/bits.deBruijn32tab", laid_math_bits_deBruijn32tab), ("math/bits.deBruijn64tab", laid_math_bits_deBruijn64tab), ("internal/strconv.uint64pow10", laid_internal_strconv_uint64pow10)], narrowed := true }
def WrittenOnlyUptoSaid : Prop := writtenOnlyUptoRow.holds Tryd.pinned (OpenSpec.upto writtenOnlySpec)

/-- 'pigeonholelaw03.WrittenNumber', WHERE WHAT IT READS IS OF BULK AT MOST 1048576: true; the input reads as it did. -/
def writtenNumberUptoRow : OpenClaim := { program := "ytkdcajibehpeaaadoor", sum := "e3f0d26706983316ef819708f1f71114d5a91ab004a6a4fc5d4aa5d5da257b70", func := "pigeonhole/pigeonholelaw03.WrittenNumber", spec := "writtenNumber", inPlace := ["internal/bytealg.IndexByteString", "internal/bytealg.IndexString", "internal/abi.NoEscape", "internal/bytealg.MakeNoZero"], unfollowed := true, recurses := true, named := ["internal/bytealg.MaxLen", "internal/strconv.uint64pow10", "math/bits.deBruijn32tab", "math/bits.deBruijn64tab"], apart := false, laid := [("math/bits.deBruijn32tab", laid_math_bits_deBruijn32tab), ("math/bits.deBruijn64tab", laid_math_bits_deBruijn64tab), ("internal/strconv.uint64pow10", laid_internal_strconv_uint64pow10)], narrowed := true }
def WrittenNumberUptoSaid : Prop := writtenNumberUptoRow.holds Tryd.pinned (OpenSpec.upto writtenNumberSpec)

/-- 'pigeonholelaw03.WrittenWords', WHERE WHAT IT READS IS OF BULK AT MOST 1048576: true; the input reads as it did. -/
def writtenWordsUptoRow : OpenClaim := { program := "ytkdcajibehpeaaadoor", sum := "e3f0d26706983316ef819708f1f71114d5a91ab004a6a4fc5d4aa5d5da257b70", func := "pigeonhole/pigeonholelaw03.WrittenWords", spec := "writtenWords", inPlace := ["internal/bytealg.IndexByteString", "internal/bytealg.IndexString", "internal/abi.NoEscape", "internal/bytealg.MakeNoZero"], unfollowed := true, recurses := true, named := ["internal/bytealg.MaxLen", "internal/strconv.uint64pow10", "math/bits.deBruijn32tab", "math/bits.deBruijn64tab"], apart := false, laid := [("math/bits.deBruijn32tab", laid_math_bits_deBruijn32tab), ("math/bits.deBruijn64tab", laid_math_bits_deBruijn64tab), ("internal/strconv.uint64pow10", laid_internal_strconv_uint64pow10)], narrowed := true }
def WrittenWordsUptoSaid : Prop := writtenWordsUptoRow.holds Tryd.pinned (OpenSpec.upto writtenWordsSpec)

/-- 'pigeonholelaw03.WrittenApart', WHERE WHAT IT READS IS OF BULK AT MOST 1048576: true; the input reads as it did. -/
def writtenApartUptoRow : OpenClaim := { program := "ytkdcajibehpeaaadoor", sum := "e3f0d26706983316ef819708f1f71114d5a91ab004a6a4fc5d4aa5d5da257b70", func := "pigeonhole/pigeonholelaw03.WrittenApart", spec := "writtenApart", inPlace := ["internal/bytealg.IndexByteString", "internal/bytealg.IndexString", "internal/abi.NoEscape", "internal/bytealg.MakeNoZero"], unfollowed := true, recurses := true, named := ["internal/bytealg.MaxLen", "internal/strconv.uint64pow10", "math/bits.deBruijn32tab", "math/bits.deBruijn64tab"], apart := false, laid := [("math/bits.deBruijn32tab", laid_math_bits_deBruijn32tab), ("math/bits.deBruijn64tab", laid_math_bits_deBruijn64tab), ("internal/strconv.uint64pow10", laid_internal_strconv_uint64pow10)], narrowed := true }
def WrittenApartUptoSaid : Prop := writtenApartUptoRow.holds Tryd.pinned (OpenSpec.upto writtenApartSpec)

end Rows
end Go.Proofs.YtkdcajibehpeaaaDoor
