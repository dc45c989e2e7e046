/-
  NARROWER THAN 'FOR EVERY INPUT', by the rows' own cells (each row's printed sentence says how): Checked: laid · Refuses: laid · Ran: laid · Accepts: laid · Balanced: laid · Fueled: laid · Looked: laid · Executed: laid · Calm: laid · Elaborated: laid · Plain: laid.
  DERIVED. THE GIVEN ROWS OF THIS SEAT. 11 by the template 'for every input the law returns true; each argument reads behind the call as it read before'; 0 by the template 'total and deterministic' (their statements: YtmlgajhhnojdjaaGreatDoorTotals.lean).
  GIVEN WITH THE SEED: the statements are not yours to turn. If you find one false, say at which input.
  Laid BY PROGRAM, IN A SANDBOX (cutbox-rows.mjs): the forced cells as the released guide's own fill.sh prints them over the translation 02c6b5282f0f9b8d… (all of the seat's roots in one cut). By AI agents, Wed Nov 11 2026. No macro, syntax, notation, axiom, sorry.
-/
import Derived.Test.YtmlgajhhnojdjaaGreatDoorChecked
import GoSem.PinnedTables
import GoSem.Claim
import GoSem.ClaimJoined
import GoSem.ClaimMapViews
import Derived.JoinedTies
import Derived.KernelRfl
namespace Go.Proofs.YtmlgajhhnojdjaaGreatDoor
/- THE CELL 'sum', in the pinned program and in every row, IS THE sha256 OF THE DUMP (.gsa) THAT YtmlgajhhnojdjaaGreatDoorProg.lean LOADS. Nothing in Lean hashes anything: it is a label: what it is worth is what the hold of that sum in a sandbox is worth. -/
noncomputable def Tryz.pinned : Pinned := { name := "ytmlgajhhnojdjaagreatdoor", sum := "02c6b5282f0f9b8d56ab627e3e4c66d9865e1b003520d689ae8fe6eb32754e6e", checked := Tryz.checked }
namespace Rows
def none {H : Type} : Left H := { results := [], args := [] }

/- WHAT THE LISTED PACKAGE-LEVEL VARIABLES READ AS WHEN THE CALL BEGINS. Each datum BY PROGRAM (the guide's laid-datum.mjs) off the statement by which the dump's own 'gosem.cut.vars' lays the variable. In a bare row this is a premise. The card (YtmlgajhhnojdjaaGreatDoorCards.lean) ties it to the program's text. -/
def laid_math_bits_deBruijn32tab {H : Type} : DataW H := .agg [.lit (.int .u8 0), .lit (.int .u8 1), .lit (.int .u8 28), .lit (.int .u8 2), .lit (.int .u8 29), .lit (.int .u8 14), .lit (.int .u8 24), .lit (.int .u8 3), .lit (.int .u8 30), .lit (.int .u8 22), .lit (.int .u8 20), .lit (.int .u8 15), .lit (.int .u8 25), .lit (.int .u8 17), .lit (.int .u8 4), .lit (.int .u8 8), .lit (.int .u8 31), .lit (.int .u8 27), .lit (.int .u8 13), .lit (.int .u8 23), .lit (.int .u8 21), .lit (.int .u8 19), .lit (.int .u8 16), .lit (.int .u8 7), .lit (.int .u8 26), .lit (.int .u8 12), .lit (.int .u8 18), .lit (.int .u8 6), .lit (.int .u8 11), .lit (.int .u8 5), .lit (.int .u8 10), .lit (.int .u8 9)]
def laid_math_bits_deBruijn64tab {H : Type} : DataW H := .agg [.lit (.int .u8 0), .lit (.int .u8 1), .lit (.int .u8 56), .lit (.int .u8 2), .lit (.int .u8 57), .lit (.int .u8 49), .lit (.int .u8 28), .lit (.int .u8 3), .lit (.int .u8 61), .lit (.int .u8 58), .lit (.int .u8 42), .lit (.int .u8 50), .lit (.int .u8 38), .lit (.int .u8 29), .lit (.int .u8 17), .lit (.int .u8 4), .lit (.int .u8 62), .lit (.int .u8 47), .lit (.int .u8 59), .lit (.int .u8 36), .lit (.int .u8 45), .lit (.int .u8 43), .lit (.int .u8 51), .lit (.int .u8 22), .lit (.int .u8 53), .lit (.int .u8 39), .lit (.int .u8 33), .lit (.int .u8 30), .lit (.int .u8 24), .lit (.int .u8 18), .lit (.int .u8 12), .lit (.int .u8 5), .lit (.int .u8 63), .lit (.int .u8 55), .lit (.int .u8 48), .lit (.int .u8 27), .lit (.int .u8 60), .lit (.int .u8 41), .lit (.int .u8 37), .lit (.int .u8 16), .lit (.int .u8 46), .lit (.int .u8 35), .lit (.int .u8 44), .lit (.int .u8 21), .lit (.int .u8 52), .lit (.int .u8 32), .lit (.int .u8 23), .lit (.int .u8 11), .lit (.int .u8 54), .lit (.int .u8 26), .lit (.int .u8 40), .lit (.int .u8 15), .lit (.int .u8 34), .lit (.int .u8 20), .lit (.int .u8 31), .lit (.int .u8 10), .lit (.int .u8 25), .lit (.int .u8 14), .lit (.int .u8 19), .lit (.int .u8 9), .lit (.int .u8 13), .lit (.int .u8 8), .lit (.int .u8 7), .lit (.int .u8 6)]
def laid_internal_strconv_uint64pow10 {H : Type} : DataW H := .agg [.lit (.int .u64 1), .lit (.int .u64 10), .lit (.int .u64 100), .lit (.int .u64 1000), .lit (.int .u64 10000), .lit (.int .u64 100000), .lit (.int .u64 1000000), .lit (.int .u64 10000000), .lit (.int .u64 100000000), .lit (.int .u64 1000000000), .lit (.int .u64 10000000000), .lit (.int .u64 100000000000), .lit (.int .u64 1000000000000), .lit (.int .u64 10000000000000), .lit (.int .u64 100000000000000), .lit (.int .u64 1000000000000000), .lit (.int .u64 10000000000000000), .lit (.int .u64 100000000000000000), .lit (.int .u64 1000000000000000000), .lit (.int .u64 10000000000000000000)]
def laid_unicode_utf8_acceptRanges {H : Type} : DataW H := .agg [.agg [.lit (.int .u8 128), .lit (.int .u8 191)], .agg [.lit (.int .u8 160), .lit (.int .u8 191)], .agg [.lit (.int .u8 128), .lit (.int .u8 159)], .agg [.lit (.int .u8 144), .lit (.int .u8 191)], .agg [.lit (.int .u8 128), .lit (.int .u8 143)], .agg [.lit (.int .u8 0), .lit (.int .u8 0)], .agg [.lit (.int .u8 0), .lit (.int .u8 0)], .agg [.lit (.int .u8 0), .lit (.int .u8 0)], .agg [.lit (.int .u8 0), .lit (.int .u8 0)], .agg [.lit (.int .u8 0), .lit (.int .u8 0)], .agg [.lit (.int .u8 0), .lit (.int .u8 0)], .agg [.lit (.int .u8 0), .lit (.int .u8 0)], .agg [.lit (.int .u8 0), .lit (.int .u8 0)], .agg [.lit (.int .u8 0), .lit (.int .u8 0)], .agg [.lit (.int .u8 0), .lit (.int .u8 0)], .agg [.lit (.int .u8 0), .lit (.int .u8 0)]]
def laid_strconv_ErrRange {H : Type} : DataW H := .iface "*errors.errorString" (.ptr (.agg [.lit (.string [118, 97, 108, 117, 101, 32, 111, 117, 116, 32, 111, 102, 32, 114, 97, 110, 103, 101])]))
def laid_strconv_ErrSyntax {H : Type} : DataW H := .iface "*errors.errorString" (.ptr (.agg [.lit (.string [105, 110, 118, 97, 108, 105, 100, 32, 115, 121, 110, 116, 97, 120])]))
def laid_stow_prog_shapes {H : Type} : DataW H := .agg [.agg [.lit (.string [108, 101, 116]), .lit (.string [100, 116])], .agg [.lit (.string [98, 108, 111, 99, 107]), .lit (.string [])], .agg [.lit (.string [115, 101, 116]), .lit (.string [105, 35])], .agg [.lit (.string [97, 100, 100]), .lit (.string [105, 105, 105])], .agg [.lit (.string [115, 117, 98]), .lit (.string [105, 105, 105])], .agg [.lit (.string [109, 117, 108]), .lit (.string [105, 105, 105])], .agg [.lit (.string [100, 105, 118]), .lit (.string [105, 105, 105])], .agg [.lit (.string [105, 110]), .lit (.string [105])], .agg [.lit (.string [111, 117, 116]), .lit (.string [105])], .agg [.lit (.string [110, 101, 119]), .lit (.string [112, 105])], .agg [.lit (.string [108, 111, 97, 100]), .lit (.string [105, 112])], .agg [.lit (.string [115, 116, 111, 114, 101]), .lit (.string [112, 105])], .agg [.lit (.string [109, 111, 118, 101]), .lit (.string [109, 109])], .agg [.lit (.string [110, 111, 110, 101]), .lit (.string [111])], .agg [.lit (.string [115, 111, 109, 101]), .lit (.string [111, 112])], .agg [.lit (.string [100, 114, 111, 112]), .lit (.string [109])], .agg [.lit (.string [102, 114, 101, 101]), .lit (.string [112])], .agg [.lit (.string [102, 108, 97, 103]), .lit (.string [102, 118])], .agg [.lit (.string [103, 111, 116, 111]), .lit (.string [98])], .agg [.lit (.string [105, 102]), .lit (.string [105, 98, 98])], .agg [.lit (.string [109, 97, 116, 99, 104]), .lit (.string [111, 98, 98])], .agg [.lit (.string [116, 101, 115, 116]), .lit (.string [102, 98, 98])], .agg [.lit (.string [101, 110, 100]), .lit (.string [105])]]
def laid_stow_prog_typeWords {H : Type} : DataW H := .agg [.lit (.string [105, 110, 116]), .lit (.string [98, 111, 120]), .lit (.string [112, 97, 105, 114]), .lit (.string [111, 112, 116])]
/-- One of Go's own tables, pinned by name: the form's constant. -/
def laid_unicode_utf8_first : DataW Unit := Go.Pinned.utf8First
def laid_stow_prog_suffixes {H : Type} : DataW H := .agg [.lit (.string []), .lit (.string [46, 97]), .lit (.string [46, 98]), .lit (.string [46, 115])]

/-- 'stowlaw.Checked': WHATEVER THE INPUT: true; the input reads as it did. -/
def checkedSpec : ChangeSpec := { name := "checked", fn := fun _ => fun
  | [d1, d2] => { results := [.lit (.bool true)], args := [d1, d2] }
  | _ => none }
def checkedRow : OpenClaim := { program := "ytmlgajhhnojdjaagreatdoor", sum := "02c6b5282f0f9b8d56ab627e3e4c66d9865e1b003520d689ae8fe6eb32754e6e", func := "stow/stowlaw.Checked", spec := "checked", inPlace := ["internal/bytealg.CountString", "internal/bytealg.IndexByteString", "internal/bytealg.IndexString"], unfollowed := true, recurses := true, named := ["internal/bytealg.MaxLen", "unicode/utf8.first", "unicode/utf8.acceptRanges", "stow/prog.shapes", "stow/prog.typeWords", "strconv.ErrSyntax", "strconv.ErrRange", "internal/strconv.uint64pow10", "math/bits.deBruijn32tab", "math/bits.deBruijn64tab"], apart := false, laid := [("math/bits.deBruijn32tab", laid_math_bits_deBruijn32tab), ("math/bits.deBruijn64tab", laid_math_bits_deBruijn64tab), ("internal/strconv.uint64pow10", laid_internal_strconv_uint64pow10), ("unicode/utf8.acceptRanges", laid_unicode_utf8_acceptRanges), ("strconv.ErrRange", laid_strconv_ErrRange), ("strconv.ErrSyntax", laid_strconv_ErrSyntax), ("stow/prog.shapes", laid_stow_prog_shapes), ("stow/prog.typeWords", laid_stow_prog_typeWords), ("unicode/utf8.first", laid_unicode_utf8_first)] }
def CheckedSaid : Prop := checkedRow.holds Tryz.pinned (OpenSpec.ofChange checkedSpec)

/-- ITS FALSE NEIGHBOUR: 'it returns false'. Refute it at one input. -/
def checkedWrong : ChangeSpec := { name := "checked", fn := fun _ => fun
  | [d1, d2] => { results := [.lit (.bool false)], args := [d1, d2] }
  | _ => none }
def CheckedWrongFalsely : Prop := checkedRow.holds Tryz.pinned (OpenSpec.ofChange checkedWrong)

/-- 'stowkeep.Refuses': WHATEVER THE INPUT: true; the input reads as it did. -/
def refusesSpec : ChangeSpec := { name := "refuses", fn := fun _ => fun
  | [d1, d2, d3, d4] => { results := [.lit (.bool true)], args := [d1, d2, d3, d4] }
  | _ => none }
def refusesRow : OpenClaim := { program := "ytmlgajhhnojdjaagreatdoor", sum := "02c6b5282f0f9b8d56ab627e3e4c66d9865e1b003520d689ae8fe6eb32754e6e", func := "stow/stowkeep.Refuses", spec := "refuses", inPlace := ["internal/bytealg.CountString", "internal/bytealg.IndexByteString", "internal/bytealg.IndexString"], unfollowed := true, recurses := true, named := ["internal/bytealg.MaxLen", "unicode/utf8.first", "unicode/utf8.acceptRanges", "stow/prog.shapes", "stow/prog.typeWords", "strconv.ErrSyntax", "strconv.ErrRange", "internal/strconv.uint64pow10", "math/bits.deBruijn32tab", "math/bits.deBruijn64tab"], apart := false, laid := [("math/bits.deBruijn32tab", laid_math_bits_deBruijn32tab), ("math/bits.deBruijn64tab", laid_math_bits_deBruijn64tab), ("internal/strconv.uint64pow10", laid_internal_strconv_uint64pow10), ("unicode/utf8.acceptRanges", laid_unicode_utf8_acceptRanges), ("strconv.ErrRange", laid_strconv_ErrRange), ("strconv.ErrSyntax", laid_strconv_ErrSyntax), ("stow/prog.shapes", laid_stow_prog_shapes), ("stow/prog.typeWords", laid_stow_prog_typeWords), ("unicode/utf8.first", laid_unicode_utf8_first)] }
def RefusesSaid : Prop := refusesRow.holds Tryz.pinned (OpenSpec.ofChange refusesSpec)

/-- ITS FALSE NEIGHBOUR: 'it returns false'. Refute it at one input. -/
def refusesWrong : ChangeSpec := { name := "refuses", fn := fun _ => fun
  | [d1, d2, d3, d4] => { results := [.lit (.bool false)], args := [d1, d2, d3, d4] }
  | _ => none }
def RefusesWrongFalsely : Prop := refusesRow.holds Tryz.pinned (OpenSpec.ofChange refusesWrong)

/-- 'stowlaw.Ran': WHATEVER THE INPUT: true; the input reads as it did. -/
def ranSpec : ChangeSpec := { name := "ran", fn := fun _ => fun
  | [d1, d2, d3, d4, d5, d6, d7, d8] => { results := [.lit (.bool true)], args := [d1, d2, d3, d4, d5, d6, d7, d8] }
  | _ => none }
def ranRow : OpenClaim := { program := "ytmlgajhhnojdjaagreatdoor", sum := "02c6b5282f0f9b8d56ab627e3e4c66d9865e1b003520d689ae8fe6eb32754e6e", func := "stow/stowlaw.Ran", spec := "ran", inPlace := ["internal/bytealg.CountString", "internal/bytealg.IndexByteString", "internal/bytealg.IndexString", "internal/abi.NoEscape", "internal/bytealg.MakeNoZero"], unfollowed := true, recurses := true, named := ["internal/bytealg.MaxLen", "unicode/utf8.first", "unicode/utf8.acceptRanges", "stow/prog.shapes", "stow/prog.typeWords", "strconv.ErrSyntax", "strconv.ErrRange", "internal/strconv.uint64pow10", "math/bits.deBruijn32tab", "math/bits.deBruijn64tab"], apart := false, laid := [("math/bits.deBruijn32tab", laid_math_bits_deBruijn32tab), ("math/bits.deBruijn64tab", laid_math_bits_deBruijn64tab), ("internal/strconv.uint64pow10", laid_internal_strconv_uint64pow10), ("unicode/utf8.acceptRanges", laid_unicode_utf8_acceptRanges), ("strconv.ErrRange", laid_strconv_ErrRange), ("strconv.ErrSyntax", laid_strconv_ErrSyntax), ("stow/prog.shapes", laid_stow_prog_shapes), ("stow/prog.typeWords", laid_stow_prog_typeWords), ("unicode/utf8.first", laid_unicode_utf8_first)] }
def RanSaid : Prop := ranRow.holds Tryz.pinned (OpenSpec.ofChange ranSpec)

/-- ITS FALSE NEIGHBOUR: 'it returns false'. Refute it at one input. -/
def ranWrong : ChangeSpec := { name := "ran", fn := fun _ => fun
  | [d1, d2, d3, d4, d5, d6, d7, d8] => { results := [.lit (.bool false)], args := [d1, d2, d3, d4, d5, d6, d7, d8] }
  | _ => none }
def RanWrongFalsely : Prop := ranRow.holds Tryz.pinned (OpenSpec.ofChange ranWrong)

/-- 'stowkeep.Accepts': WHATEVER THE INPUT: true; the input reads as it did. -/
def acceptsSpec : ChangeSpec := { name := "accepts", fn := fun _ => fun
  | [d] => { results := [.lit (.bool true)], args := [d] }
  | _ => none }
def acceptsRow : OpenClaim := { program := "ytmlgajhhnojdjaagreatdoor", sum := "02c6b5282f0f9b8d56ab627e3e4c66d9865e1b003520d689ae8fe6eb32754e6e", func := "stow/stowkeep.Accepts", spec := "accepts", inPlace := ["internal/bytealg.CountString", "internal/bytealg.IndexByteString", "internal/bytealg.IndexString", "internal/abi.NoEscape", "internal/bytealg.MakeNoZero"], unfollowed := true, recurses := true, named := ["internal/bytealg.MaxLen", "unicode/utf8.first", "unicode/utf8.acceptRanges", "stow/prog.shapes", "stow/prog.typeWords", "strconv.ErrSyntax", "strconv.ErrRange", "internal/strconv.uint64pow10", "math/bits.deBruijn32tab", "math/bits.deBruijn64tab"], apart := false, laid := [("math/bits.deBruijn32tab", laid_math_bits_deBruijn32tab), ("math/bits.deBruijn64tab", laid_math_bits_deBruijn64tab), ("internal/strconv.uint64pow10", laid_internal_strconv_uint64pow10), ("unicode/utf8.acceptRanges", laid_unicode_utf8_acceptRanges), ("strconv.ErrRange", laid_strconv_ErrRange), ("strconv.ErrSyntax", laid_strconv_ErrSyntax), ("stow/prog.shapes", laid_stow_prog_shapes), ("stow/prog.typeWords", laid_stow_prog_typeWords), ("unicode/utf8.first", laid_unicode_utf8_first)] }
def AcceptsSaid : Prop := acceptsRow.holds Tryz.pinned (OpenSpec.ofChange acceptsSpec)

/-- ITS FALSE NEIGHBOUR: 'it returns false'. Refute it at one input. -/
def acceptsWrong : ChangeSpec := { name := "accepts", fn := fun _ => fun
  | [d] => { results := [.lit (.bool false)], args := [d] }
  | _ => none }
def AcceptsWrongFalsely : Prop := acceptsRow.holds Tryz.pinned (OpenSpec.ofChange acceptsWrong)

/-- 'stowkeep.Balanced': WHATEVER THE INPUT: true; the input reads as it did. -/
def balancedSpec : ChangeSpec := { name := "balanced", fn := fun _ => fun
  | [d1, d2, d3, d4] => { results := [.lit (.bool true)], args := [d1, d2, d3, d4] }
  | _ => none }
def balancedRow : OpenClaim := { program := "ytmlgajhhnojdjaagreatdoor", sum := "02c6b5282f0f9b8d56ab627e3e4c66d9865e1b003520d689ae8fe6eb32754e6e", func := "stow/stowkeep.Balanced", spec := "balanced", inPlace := ["internal/bytealg.CountString", "internal/bytealg.IndexByteString", "internal/bytealg.IndexString", "internal/abi.NoEscape", "internal/bytealg.MakeNoZero"], unfollowed := true, recurses := true, named := ["internal/bytealg.MaxLen", "unicode/utf8.first", "unicode/utf8.acceptRanges", "stow/prog.shapes", "stow/prog.typeWords", "strconv.ErrSyntax", "strconv.ErrRange", "internal/strconv.uint64pow10", "math/bits.deBruijn32tab", "math/bits.deBruijn64tab"], apart := false, laid := [("math/bits.deBruijn32tab", laid_math_bits_deBruijn32tab), ("math/bits.deBruijn64tab", laid_math_bits_deBruijn64tab), ("internal/strconv.uint64pow10", laid_internal_strconv_uint64pow10), ("unicode/utf8.acceptRanges", laid_unicode_utf8_acceptRanges), ("strconv.ErrRange", laid_strconv_ErrRange), ("strconv.ErrSyntax", laid_strconv_ErrSyntax), ("stow/prog.shapes", laid_stow_prog_shapes), ("stow/prog.typeWords", laid_stow_prog_typeWords), ("unicode/utf8.first", laid_unicode_utf8_first)] }
def BalancedSaid : Prop := balancedRow.holds Tryz.pinned (OpenSpec.ofChange balancedSpec)

/-- ITS FALSE NEIGHBOUR: 'it returns false'. Refute it at one input. -/
def balancedWrong : ChangeSpec := { name := "balanced", fn := fun _ => fun
  | [d1, d2, d3, d4] => { results := [.lit (.bool false)], args := [d1, d2, d3, d4] }
  | _ => none }
def BalancedWrongFalsely : Prop := balancedRow.holds Tryz.pinned (OpenSpec.ofChange balancedWrong)

/-- 'stowkeep.Fueled': WHATEVER THE INPUT: true; the input reads as it did. -/
def fueledSpec : ChangeSpec := { name := "fueled", fn := fun _ => fun
  | [d1, d2, d3, d4, d5] => { results := [.lit (.bool true)], args := [d1, d2, d3, d4, d5] }
  | _ => none }
def fueledRow : OpenClaim := { program := "ytmlgajhhnojdjaagreatdoor", sum := "02c6b5282f0f9b8d56ab627e3e4c66d9865e1b003520d689ae8fe6eb32754e6e", func := "stow/stowkeep.Fueled", spec := "fueled", inPlace := ["internal/bytealg.CountString", "internal/bytealg.IndexByteString", "internal/bytealg.IndexString", "internal/abi.NoEscape", "internal/bytealg.MakeNoZero"], unfollowed := true, recurses := true, named := ["internal/bytealg.MaxLen", "unicode/utf8.first", "unicode/utf8.acceptRanges", "stow/prog.shapes", "stow/prog.typeWords", "strconv.ErrSyntax", "strconv.ErrRange", "internal/strconv.uint64pow10", "math/bits.deBruijn32tab", "math/bits.deBruijn64tab"], apart := false, laid := [("math/bits.deBruijn32tab", laid_math_bits_deBruijn32tab), ("math/bits.deBruijn64tab", laid_math_bits_deBruijn64tab), ("internal/strconv.uint64pow10", laid_internal_strconv_uint64pow10), ("unicode/utf8.acceptRanges", laid_unicode_utf8_acceptRanges), ("strconv.ErrRange", laid_strconv_ErrRange), ("strconv.ErrSyntax", laid_strconv_ErrSyntax), ("stow/prog.shapes", laid_stow_prog_shapes), ("stow/prog.typeWords", laid_stow_prog_typeWords), ("unicode/utf8.first", laid_unicode_utf8_first)] }
def FueledSaid : Prop := fueledRow.holds Tryz.pinned (OpenSpec.ofChange fueledSpec)

/-- ITS FALSE NEIGHBOUR: 'it returns false'. Refute it at one input. -/
def fueledWrong : ChangeSpec := { name := "fueled", fn := fun _ => fun
  | [d1, d2, d3, d4, d5] => { results := [.lit (.bool false)], args := [d1, d2, d3, d4, d5] }
  | _ => none }
def FueledWrongFalsely : Prop := fueledRow.holds Tryz.pinned (OpenSpec.ofChange fueledWrong)

/-- 'stowlaw.Looked': WHATEVER THE INPUT: true; the input reads as it did. -/
def lookedSpec : ChangeSpec := { name := "looked", fn := fun _ => fun
  | [d1, d2] => { results := [.lit (.bool true)], args := [d1, d2] }
  | _ => none }
def lookedRow : OpenClaim := { program := "ytmlgajhhnojdjaagreatdoor", sum := "02c6b5282f0f9b8d56ab627e3e4c66d9865e1b003520d689ae8fe6eb32754e6e", func := "stow/stowlaw.Looked", spec := "looked", inPlace := ["internal/bytealg.CountString", "internal/bytealg.IndexByteString", "internal/bytealg.IndexString"], unfollowed := true, recurses := true, named := ["internal/bytealg.MaxLen", "unicode/utf8.first", "unicode/utf8.acceptRanges", "stow/prog.shapes", "stow/prog.typeWords", "strconv.ErrSyntax", "strconv.ErrRange", "internal/strconv.uint64pow10", "math/bits.deBruijn32tab", "math/bits.deBruijn64tab"], apart := false, laid := [("math/bits.deBruijn32tab", laid_math_bits_deBruijn32tab), ("math/bits.deBruijn64tab", laid_math_bits_deBruijn64tab), ("internal/strconv.uint64pow10", laid_internal_strconv_uint64pow10), ("unicode/utf8.acceptRanges", laid_unicode_utf8_acceptRanges), ("strconv.ErrRange", laid_strconv_ErrRange), ("strconv.ErrSyntax", laid_strconv_ErrSyntax), ("stow/prog.shapes", laid_stow_prog_shapes), ("stow/prog.typeWords", laid_stow_prog_typeWords), ("unicode/utf8.first", laid_unicode_utf8_first)] }
def LookedSaid : Prop := lookedRow.holds Tryz.pinned (OpenSpec.ofChange lookedSpec)

/-- ITS FALSE NEIGHBOUR: 'it returns false'. Refute it at one input. -/
def lookedWrong : ChangeSpec := { name := "looked", fn := fun _ => fun
  | [d1, d2] => { results := [.lit (.bool false)], args := [d1, d2] }
  | _ => none }
def LookedWrongFalsely : Prop := lookedRow.holds Tryz.pinned (OpenSpec.ofChange lookedWrong)

/-- 'stowlaw.Executed': WHATEVER THE INPUT: true; the input reads as it did. -/
def executedSpec : ChangeSpec := { name := "executed", fn := fun _ => fun
  | [d1, d2, d3, d4, d5, d6, d7, d8] => { results := [.lit (.bool true)], args := [d1, d2, d3, d4, d5, d6, d7, d8] }
  | _ => none }
def executedRow : OpenClaim := { program := "ytmlgajhhnojdjaagreatdoor", sum := "02c6b5282f0f9b8d56ab627e3e4c66d9865e1b003520d689ae8fe6eb32754e6e", func := "stow/stowlaw.Executed", spec := "executed", inPlace := ["internal/bytealg.CountString", "internal/bytealg.IndexByteString", "internal/bytealg.IndexString", "internal/abi.NoEscape", "internal/bytealg.MakeNoZero"], unfollowed := true, recurses := true, named := ["internal/bytealg.MaxLen", "unicode/utf8.first", "unicode/utf8.acceptRanges", "stow/prog.shapes", "stow/prog.typeWords", "strconv.ErrSyntax", "strconv.ErrRange", "internal/strconv.uint64pow10", "math/bits.deBruijn32tab", "math/bits.deBruijn64tab"], apart := false, laid := [("math/bits.deBruijn32tab", laid_math_bits_deBruijn32tab), ("math/bits.deBruijn64tab", laid_math_bits_deBruijn64tab), ("internal/strconv.uint64pow10", laid_internal_strconv_uint64pow10), ("unicode/utf8.acceptRanges", laid_unicode_utf8_acceptRanges), ("strconv.ErrRange", laid_strconv_ErrRange), ("strconv.ErrSyntax", laid_strconv_ErrSyntax), ("stow/prog.shapes", laid_stow_prog_shapes), ("stow/prog.typeWords", laid_stow_prog_typeWords), ("unicode/utf8.first", laid_unicode_utf8_first)] }
def ExecutedSaid : Prop := executedRow.holds Tryz.pinned (OpenSpec.ofChange executedSpec)

/-- ITS FALSE NEIGHBOUR: 'it returns false'. Refute it at one input. -/
def executedWrong : ChangeSpec := { name := "executed", fn := fun _ => fun
  | [d1, d2, d3, d4, d5, d6, d7, d8] => { results := [.lit (.bool false)], args := [d1, d2, d3, d4, d5, d6, d7, d8] }
  | _ => none }
def ExecutedWrongFalsely : Prop := executedRow.holds Tryz.pinned (OpenSpec.ofChange executedWrong)

/-- 'stowkeep.Calm': WHATEVER THE INPUT: true; the input reads as it did. -/
def calmSpec : ChangeSpec := { name := "calm", fn := fun _ => fun
  | [d1, d2, d3, d4] => { results := [.lit (.bool true)], args := [d1, d2, d3, d4] }
  | _ => none }
def calmRow : OpenClaim := { program := "ytmlgajhhnojdjaagreatdoor", sum := "02c6b5282f0f9b8d56ab627e3e4c66d9865e1b003520d689ae8fe6eb32754e6e", func := "stow/stowkeep.Calm", spec := "calm", inPlace := ["internal/bytealg.CountString", "internal/bytealg.IndexByteString", "internal/bytealg.IndexString", "internal/abi.NoEscape", "internal/bytealg.MakeNoZero"], unfollowed := true, recurses := true, named := ["internal/bytealg.MaxLen", "unicode/utf8.first", "unicode/utf8.acceptRanges", "stow/prog.shapes", "stow/prog.typeWords", "strconv.ErrSyntax", "strconv.ErrRange", "internal/strconv.uint64pow10", "math/bits.deBruijn32tab", "math/bits.deBruijn64tab"], apart := false, laid := [("math/bits.deBruijn32tab", laid_math_bits_deBruijn32tab), ("math/bits.deBruijn64tab", laid_math_bits_deBruijn64tab), ("internal/strconv.uint64pow10", laid_internal_strconv_uint64pow10), ("unicode/utf8.acceptRanges", laid_unicode_utf8_acceptRanges), ("strconv.ErrRange", laid_strconv_ErrRange), ("strconv.ErrSyntax", laid_strconv_ErrSyntax), ("stow/prog.shapes", laid_stow_prog_shapes), ("stow/prog.typeWords", laid_stow_prog_typeWords), ("unicode/utf8.first", laid_unicode_utf8_first)] }
def CalmSaid : Prop := calmRow.holds Tryz.pinned (OpenSpec.ofChange calmSpec)

/-- ITS FALSE NEIGHBOUR: 'it returns false'. Refute it at one input. -/
def calmWrong : ChangeSpec := { name := "calm", fn := fun _ => fun
  | [d1, d2, d3, d4] => { results := [.lit (.bool false)], args := [d1, d2, d3, d4] }
  | _ => none }
def CalmWrongFalsely : Prop := calmRow.holds Tryz.pinned (OpenSpec.ofChange calmWrong)

/-- 'stowkeep.Elaborated': WHATEVER THE INPUT: true; the input reads as it did. -/
def elaboratedSpec : ChangeSpec := { name := "elaborated", fn := fun _ => fun
  | [d1, d2, d3] => { results := [.lit (.bool true)], args := [d1, d2, d3] }
  | _ => none }
def elaboratedRow : OpenClaim := { program := "ytmlgajhhnojdjaagreatdoor", sum := "02c6b5282f0f9b8d56ab627e3e4c66d9865e1b003520d689ae8fe6eb32754e6e", func := "stow/stowkeep.Elaborated", spec := "elaborated", inPlace := ["internal/bytealg.CountString", "internal/bytealg.IndexByteString", "internal/bytealg.IndexString", "internal/abi.NoEscape", "internal/bytealg.MakeNoZero"], unfollowed := true, recurses := true, named := ["internal/bytealg.MaxLen", "unicode/utf8.first", "unicode/utf8.acceptRanges", "stow/prog.shapes", "stow/prog.typeWords", "strconv.ErrSyntax", "strconv.ErrRange", "internal/strconv.uint64pow10", "math/bits.deBruijn32tab", "math/bits.deBruijn64tab", "stow/prog.suffixes"], apart := false, laid := [("math/bits.deBruijn32tab", laid_math_bits_deBruijn32tab), ("math/bits.deBruijn64tab", laid_math_bits_deBruijn64tab), ("internal/strconv.uint64pow10", laid_internal_strconv_uint64pow10), ("unicode/utf8.acceptRanges", laid_unicode_utf8_acceptRanges), ("strconv.ErrRange", laid_strconv_ErrRange), ("strconv.ErrSyntax", laid_strconv_ErrSyntax), ("stow/prog.shapes", laid_stow_prog_shapes), ("stow/prog.typeWords", laid_stow_prog_typeWords), ("stow/prog.suffixes", laid_stow_prog_suffixes), ("unicode/utf8.first", laid_unicode_utf8_first)] }
def ElaboratedSaid : Prop := elaboratedRow.holds Tryz.pinned (OpenSpec.ofChange elaboratedSpec)

/-- ITS FALSE NEIGHBOUR: 'it returns false'. Refute it at one input. -/
def elaboratedWrong : ChangeSpec := { name := "elaborated", fn := fun _ => fun
  | [d1, d2, d3] => { results := [.lit (.bool false)], args := [d1, d2, d3] }
  | _ => none }
def ElaboratedWrongFalsely : Prop := elaboratedRow.holds Tryz.pinned (OpenSpec.ofChange elaboratedWrong)

/-- 'stowkeep.Plain': WHATEVER THE INPUT: true; the input reads as it did. -/
def plainSpec : ChangeSpec := { name := "plain", fn := fun _ => fun
  | [d] => { results := [.lit (.bool true)], args := [d] }
  | _ => none }
def plainRow : OpenClaim := { program := "ytmlgajhhnojdjaagreatdoor", sum := "02c6b5282f0f9b8d56ab627e3e4c66d9865e1b003520d689ae8fe6eb32754e6e", func := "stow/stowkeep.Plain", spec := "plain", inPlace := ["internal/bytealg.CountString", "internal/bytealg.IndexByteString", "internal/bytealg.IndexString", "internal/abi.NoEscape", "internal/bytealg.MakeNoZero"], unfollowed := true, recurses := true, named := ["internal/bytealg.MaxLen", "unicode/utf8.first", "unicode/utf8.acceptRanges", "stow/prog.shapes", "stow/prog.typeWords", "strconv.ErrSyntax", "strconv.ErrRange", "internal/strconv.uint64pow10", "math/bits.deBruijn32tab", "math/bits.deBruijn64tab", "stow/prog.suffixes"], apart := false, laid := [("math/bits.deBruijn32tab", laid_math_bits_deBruijn32tab), ("math/bits.deBruijn64tab", laid_math_bits_deBruijn64tab), ("internal/strconv.uint64pow10", laid_internal_strconv_uint64pow10), ("unicode/utf8.acceptRanges", laid_unicode_utf8_acceptRanges), ("strconv.ErrRange", laid_strconv_ErrRange), ("strconv.ErrSyntax", laid_strconv_ErrSyntax), ("stow/prog.shapes", laid_stow_prog_shapes), ("stow/prog.typeWords", laid_stow_prog_typeWords), ("stow/prog.suffixes", laid_stow_prog_suffixes), ("unicode/utf8.first", laid_unicode_utf8_first)] }
def PlainSaid : Prop := plainRow.holds Tryz.pinned (OpenSpec.ofChange plainSpec)

/-- ITS FALSE NEIGHBOUR: 'it returns false'. Refute it at one input. -/
def plainWrong : ChangeSpec := { name := "plain", fn := fun _ => fun
  | [d] => { results := [.lit (.bool false)], args := [d] }
  | _ => none }
def PlainWrongFalsely : Prop := plainRow.holds Tryz.pinned (OpenSpec.ofChange plainWrong)

/- THE SECOND FORM. 'bulk': how many values and letters a reading holds, each counted each time it is reached (what is shared counts as often as it is met; a slice's spare places count too). A statement '..UptoSaid' is the law's where the arguments, and the package variables that the reading takes, are together of bulk at most 1048576: NARROWER than '..Said'. Prove '..Said' where nothing that the law and all that it calls make is longer than what came in: it says more and counts as full. Else prove '..UptoSaid'. A law counts once. -/
mutual
def uptoBulk {H : Type} : DataW H → Nat
  | .lit (.string bytes) => bytes.length + 1
  | .lit _ => 1
  | .nil => 1
  | .ptr d => uptoBulk d + 1
  | .slice elems spare => uptoBulkAll elems + uptoBulkAll spare + 1
  | .agg parts => uptoBulkAll parts + 1
  | .iface _ d => uptoBulk d + 1
  | .map entries => uptoBulkEntries entries + 1
  | .held _ => 1
def uptoBulkAll {H : Type} : List (DataW H) → Nat
  | [] => 0
  | d :: r => uptoBulk d + uptoBulkAll r
def uptoBulkEntries {H : Type} : List (Lit × DataW H) → Nat
  | [] => 0
  | x :: r => uptoBulkEntry x + uptoBulkEntries r
def uptoBulkEntry {H : Type} : Lit × DataW H → Nat
  | (.string bytes, d) => bytes.length + uptoBulk d + 1
  | (_, d) => uptoBulk d + 1
 end
def uptoSmall : (H : Type) → List (DataW H) → Bool := fun _ ds => decide (uptoBulkAll ds ≤ 1048576)
def OpenSpec.upto (s : _root_.Go.ChangeSpec) : _root_.Go.OpenSpec := { _root_.Go.OpenSpec.ofChange s with cond := some uptoSmall }

/-- 'stowlaw.Checked', WHERE WHAT IT READS IS OF BULK AT MOST 1048576: true; the input reads as it did. -/
def checkedUptoRow : OpenClaim := { program := "ytmlgajhhnojdjaagreatdoor", sum := "02c6b5282f0f9b8d56ab627e3e4c66d9865e1b003520d689ae8fe6eb32754e6e", func := "stow/stowlaw.Checked", spec := "checked", inPlace := ["internal/bytealg.CountString", "internal/bytealg.IndexByteString", "internal/bytealg.IndexString"], unfollowed := true, recurses := true, named := ["internal/bytealg.MaxLen", "unicode/utf8.first", "unicode/utf8.acceptRanges", "stow/prog.shapes", "stow/prog.typeWords", "strconv.ErrSyntax", "strconv.ErrRange", "internal/strconv.uint64pow10", "math/bits.deBruijn32tab", "math/bits.deBruijn64tab"], apart := false, laid := [("math/bits.deBruijn32tab", laid_math_bits_deBruijn32tab), ("math/bits.deBruijn64tab", laid_math_bits_deBruijn64tab), ("internal/strconv.uint64pow10", laid_internal_strconv_uint64pow10), ("unicode/utf8.acceptRanges", laid_unicode_utf8_acceptRanges), ("strconv.ErrRange", laid_strconv_ErrRange), ("strconv.ErrSyntax", laid_strconv_ErrSyntax), ("stow/prog.shapes", laid_stow_prog_shapes), ("stow/prog.typeWords", laid_stow_prog_typeWords), ("unicode/utf8.first", laid_unicode_utf8_first)], narrowed := true }
def CheckedUptoSaid : Prop := checkedUptoRow.holds Tryz.pinned (OpenSpec.upto checkedSpec)

/-- 'stowkeep.Refuses', WHERE WHAT IT READS IS OF BULK AT MOST 1048576: true; the input reads as it did. -/
def refusesUptoRow : OpenClaim := { program := "ytmlgajhhnojdjaagreatdoor", sum := "02c6b5282f0f9b8d56ab627e3e4c66d9865e1b003520d689ae8fe6eb32754e6e", func := "stow/stowkeep.Refuses", spec := "refuses", inPlace := ["internal/bytealg.CountString", "internal/bytealg.IndexByteString", "internal/bytealg.IndexString"], unfollowed := true, recurses := true, named := ["internal/bytealg.MaxLen", "unicode/utf8.first", "unicode/utf8.acceptRanges", "stow/prog.shapes", "stow/prog.typeWords", "strconv.ErrSyntax", "strconv.ErrRange", "internal/strconv.uint64pow10", "math/bits.deBruijn32tab", "math/bits.deBruijn64tab"], apart := false, laid := [("math/bits.deBruijn32tab", laid_math_bits_deBruijn32tab), ("math/bits.deBruijn64tab", laid_math_bits_deBruijn64tab), ("internal/strconv.uint64pow10", laid_internal_strconv_uint64pow10), ("unicode/utf8.acceptRanges", laid_unicode_utf8_acceptRanges), ("strconv.ErrRange", laid_strconv_ErrRange), ("strconv.ErrSyntax", laid_strconv_ErrSyntax), ("stow/prog.shapes", laid_stow_prog_shapes), ("stow/prog.typeWords", laid_stow_prog_typeWords), ("unicode/utf8.first", laid_unicode_utf8_first)], narrowed := true }
def RefusesUptoSaid : Prop := refusesUptoRow.holds Tryz.pinned (OpenSpec.upto refusesSpec)

/-- 'stowlaw.Ran', WHERE WHAT IT READS IS OF BULK AT MOST 1048576: true; the input reads as it did. -/
def ranUptoRow : OpenClaim := { program := "ytmlgajhhnojdjaagreatdoor", sum := "02c6b5282f0f9b8d56ab627e3e4c66d9865e1b003520d689ae8fe6eb32754e6e", func := "stow/stowlaw.Ran", spec := "ran", inPlace := ["internal/bytealg.CountString", "internal/bytealg.IndexByteString", "internal/bytealg.IndexString", "internal/abi.NoEscape", "internal/bytealg.MakeNoZero"], unfollowed := true, recurses := true, named := ["internal/bytealg.MaxLen", "unicode/utf8.first", "unicode/utf8.acceptRanges", "stow/prog.shapes", "stow/prog.typeWords", "strconv.ErrSyntax", "strconv.ErrRange", "internal/strconv.uint64pow10", "math/bits.deBruijn32tab", "math/bits.deBruijn64tab"], apart := false, laid := [("math/bits.deBruijn32tab", laid_math_bits_deBruijn32tab), ("math/bits.deBruijn64tab", laid_math_bits_deBruijn64tab), ("internal/strconv.uint64pow10", laid_internal_strconv_uint64pow10), ("unicode/utf8.acceptRanges", laid_unicode_utf8_acceptRanges), ("strconv.ErrRange", laid_strconv_ErrRange), ("strconv.ErrSyntax", laid_strconv_ErrSyntax), ("stow/prog.shapes", laid_stow_prog_shapes), ("stow/prog.typeWords", laid_stow_prog_typeWords), ("unicode/utf8.first", laid_unicode_utf8_first)], narrowed := true }
def RanUptoSaid : Prop := ranUptoRow.holds Tryz.pinned (OpenSpec.upto ranSpec)

/-- 'stowkeep.Accepts', WHERE WHAT IT READS IS OF BULK AT MOST 1048576: true; the input reads as it did. -/
def acceptsUptoRow : OpenClaim := { program := "ytmlgajhhnojdjaagreatdoor", sum := "02c6b5282f0f9b8d56ab627e3e4c66d9865e1b003520d689ae8fe6eb32754e6e", func := "stow/stowkeep.Accepts", spec := "accepts", inPlace := ["internal/bytealg.CountString", "internal/bytealg.IndexByteString", "internal/bytealg.IndexString", "internal/abi.NoEscape", "internal/bytealg.MakeNoZero"], unfollowed := true, recurses := true, named := ["internal/bytealg.MaxLen", "unicode/utf8.first", "unicode/utf8.acceptRanges", "stow/prog.shapes", "stow/prog.typeWords", "strconv.ErrSyntax", "strconv.ErrRange", "internal/strconv.uint64pow10", "math/bits.deBruijn32tab", "math/bits.deBruijn64tab"], apart := false, laid := [("math/bits.deBruijn32tab", laid_math_bits_deBruijn32tab), ("math/bits.deBruijn64tab", laid_math_bits_deBruijn64tab), ("internal/strconv.uint64pow10", laid_internal_strconv_uint64pow10), ("unicode/utf8.acceptRanges", laid_unicode_utf8_acceptRanges), ("strconv.ErrRange", laid_strconv_ErrRange), ("strconv.ErrSyntax", laid_strconv_ErrSyntax), ("stow/prog.shapes", laid_stow_prog_shapes), ("stow/prog.typeWords", laid_stow_prog_typeWords), ("unicode/utf8.first", laid_unicode_utf8_first)], narrowed := true }
def AcceptsUptoSaid : Prop := acceptsUptoRow.holds Tryz.pinned (OpenSpec.upto acceptsSpec)

/-- 'stowkeep.Balanced', WHERE WHAT IT READS IS OF BULK AT MOST 1048576: true; the input reads as it did. -/
def balancedUptoRow : OpenClaim := { program := "ytmlgajhhnojdjaagreatdoor", sum := "02c6b5282f0f9b8d56ab627e3e4c66d9865e1b003520d689ae8fe6eb32754e6e", func := "stow/stowkeep.Balanced", spec := "balanced", inPlace := ["internal/bytealg.CountString", "internal/bytealg.IndexByteString", "internal/bytealg.IndexString", "internal/abi.NoEscape", "internal/bytealg.MakeNoZero"], unfollowed := true, recurses := true, named := ["internal/bytealg.MaxLen", "unicode/utf8.first", "unicode/utf8.acceptRanges", "stow/prog.shapes", "stow/prog.typeWords", "strconv.ErrSyntax", "strconv.ErrRange", "internal/strconv.uint64pow10", "math/bits.deBruijn32tab", "math/bits.deBruijn64tab"], apart := false, laid := [("math/bits.deBruijn32tab", laid_math_bits_deBruijn32tab), ("math/bits.deBruijn64tab", laid_math_bits_deBruijn64tab), ("internal/strconv.uint64pow10", laid_internal_strconv_uint64pow10), ("unicode/utf8.acceptRanges", laid_unicode_utf8_acceptRanges), ("strconv.ErrRange", laid_strconv_ErrRange), ("strconv.ErrSyntax", laid_strconv_ErrSyntax), ("stow/prog.shapes", laid_stow_prog_shapes), ("stow/prog.typeWords", laid_stow_prog_typeWords), ("unicode/utf8.first", laid_unicode_utf8_first)], narrowed := true }
def BalancedUptoSaid : Prop := balancedUptoRow.holds Tryz.pinned (OpenSpec.upto balancedSpec)

/-- 'stowkeep.Fueled', WHERE WHAT IT READS IS OF BULK AT MOST 1048576: true; the input reads as it did. -/
def fueledUptoRow : OpenClaim := { program := "ytmlgajhhnojdjaagreatdoor", sum := "02c6b5282f0f9b8d56ab627e3e4c66d9865e1b003520d689ae8fe6eb32754e6e", func := "stow/stowkeep.Fueled", spec := "fueled", inPlace := ["internal/bytealg.CountString", "internal/bytealg.IndexByteString", "internal/bytealg.IndexString", "internal/abi.NoEscape", "internal/bytealg.MakeNoZero"], unfollowed := true, recurses := true, named := ["internal/bytealg.MaxLen", "unicode/utf8.first", "unicode/utf8.acceptRanges", "stow/prog.shapes", "stow/prog.typeWords", "strconv.ErrSyntax", "strconv.ErrRange", "internal/strconv.uint64pow10", "math/bits.deBruijn32tab", "math/bits.deBruijn64tab"], apart := false, laid := [("math/bits.deBruijn32tab", laid_math_bits_deBruijn32tab), ("math/bits.deBruijn64tab", laid_math_bits_deBruijn64tab), ("internal/strconv.uint64pow10", laid_internal_strconv_uint64pow10), ("unicode/utf8.acceptRanges", laid_unicode_utf8_acceptRanges), ("strconv.ErrRange", laid_strconv_ErrRange), ("strconv.ErrSyntax", laid_strconv_ErrSyntax), ("stow/prog.shapes", laid_stow_prog_shapes), ("stow/prog.typeWords", laid_stow_prog_typeWords), ("unicode/utf8.first", laid_unicode_utf8_first)], narrowed := true }
def FueledUptoSaid : Prop := fueledUptoRow.holds Tryz.pinned (OpenSpec.upto fueledSpec)

/-- 'stowlaw.Looked', WHERE WHAT IT READS IS OF BULK AT MOST 1048576: true; the input reads as it did. -/
def lookedUptoRow : OpenClaim := { program := "ytmlgajhhnojdjaagreatdoor", sum := "02c6b5282f0f9b8d56ab627e3e4c66d9865e1b003520d689ae8fe6eb32754e6e", func := "stow/stowlaw.Looked", spec := "looked", inPlace := ["internal/bytealg.CountString", "internal/bytealg.IndexByteString", "internal/bytealg.IndexString"], unfollowed := true, recurses := true, named := ["internal/bytealg.MaxLen", "unicode/utf8.first", "unicode/utf8.acceptRanges", "stow/prog.shapes", "stow/prog.typeWords", "strconv.ErrSyntax", "strconv.ErrRange", "internal/strconv.uint64pow10", "math/bits.deBruijn32tab", "math/bits.deBruijn64tab"], apart := false, laid := [("math/bits.deBruijn32tab", laid_math_bits_deBruijn32tab), ("math/bits.deBruijn64tab", laid_math_bits_deBruijn64tab), ("internal/strconv.uint64pow10", laid_internal_strconv_uint64pow10), ("unicode/utf8.acceptRanges", laid_unicode_utf8_acceptRanges), ("strconv.ErrRange", laid_strconv_ErrRange), ("strconv.ErrSyntax", laid_strconv_ErrSyntax), ("stow/prog.shapes", laid_stow_prog_shapes), ("stow/prog.typeWords", laid_stow_prog_typeWords), ("unicode/utf8.first", laid_unicode_utf8_first)], narrowed := true }
def LookedUptoSaid : Prop := lookedUptoRow.holds Tryz.pinned (OpenSpec.upto lookedSpec)

/-- 'stowlaw.Executed', WHERE WHAT IT READS IS OF BULK AT MOST 1048576: true; the input reads as it did. -/
def executedUptoRow : OpenClaim := { program := "ytmlgajhhnojdjaagreatdoor", sum := "02c6b5282f0f9b8d56ab627e3e4c66d9865e1b003520d689ae8fe6eb32754e6e", func := "stow/stowlaw.Executed", spec := "executed", inPlace := ["internal/bytealg.CountString", "internal/bytealg.IndexByteString", "internal/bytealg.IndexString", "internal/abi.NoEscape", "internal/bytealg.MakeNoZero"], unfollowed := true, recurses := true, named := ["internal/bytealg.MaxLen", "unicode/utf8.first", "unicode/utf8.acceptRanges", "stow/prog.shapes", "stow/prog.typeWords", "strconv.ErrSyntax", "strconv.ErrRange", "internal/strconv.uint64pow10", "math/bits.deBruijn32tab", "math/bits.deBruijn64tab"], apart := false, laid := [("math/bits.deBruijn32tab", laid_math_bits_deBruijn32tab), ("math/bits.deBruijn64tab", laid_math_bits_deBruijn64tab), ("internal/strconv.uint64pow10", laid_internal_strconv_uint64pow10), ("unicode/utf8.acceptRanges", laid_unicode_utf8_acceptRanges), ("strconv.ErrRange", laid_strconv_ErrRange), ("strconv.ErrSyntax", laid_strconv_ErrSyntax), ("stow/prog.shapes", laid_stow_prog_shapes), ("stow/prog.typeWords", laid_stow_prog_typeWords), ("unicode/utf8.first", laid_unicode_utf8_first)], narrowed := true }
def ExecutedUptoSaid : Prop := executedUptoRow.holds Tryz.pinned (OpenSpec.upto executedSpec)

/-- 'stowkeep.Calm', WHERE WHAT IT READS IS OF BULK AT MOST 1048576: true; the input reads as it did. -/
def calmUptoRow : OpenClaim := { program := "ytmlgajhhnojdjaagreatdoor", sum := "02c6b5282f0f9b8d56ab627e3e4c66d9865e1b003520d689ae8fe6eb32754e6e", func := "stow/stowkeep.Calm", spec := "calm", inPlace := ["internal/bytealg.CountString", "internal/bytealg.IndexByteString", "internal/bytealg.IndexString", "internal/abi.NoEscape", "internal/bytealg.MakeNoZero"], unfollowed := true, recurses := true, named := ["internal/bytealg.MaxLen", "unicode/utf8.first", "unicode/utf8.acceptRanges", "stow/prog.shapes", "stow/prog.typeWords", "strconv.ErrSyntax", "strconv.ErrRange", "internal/strconv.uint64pow10", "math/bits.deBruijn32tab", "math/bits.deBruijn64tab"], apart := false, laid := [("math/bits.deBruijn32tab", laid_math_bits_deBruijn32tab), ("math/bits.deBruijn64tab", laid_math_bits_deBruijn64tab), ("internal/strconv.uint64pow10", laid_internal_strconv_uint64pow10), ("unicode/utf8.acceptRanges", laid_unicode_utf8_acceptRanges), ("strconv.ErrRange", laid_strconv_ErrRange), ("strconv.ErrSyntax", laid_strconv_ErrSyntax), ("stow/prog.shapes", laid_stow_prog_shapes), ("stow/prog.typeWords", laid_stow_prog_typeWords), ("unicode/utf8.first", laid_unicode_utf8_first)], narrowed := true }
def CalmUptoSaid : Prop := calmUptoRow.holds Tryz.pinned (OpenSpec.upto calmSpec)

/-- 'stowkeep.Elaborated', WHERE WHAT IT READS IS OF BULK AT MOST 1048576: true; the input reads as it did. -/
def elaboratedUptoRow : OpenClaim := { program := "ytmlgajhhnojdjaagreatdoor", sum := "02c6b5282f0f9b8d56ab627e3e4c66d9865e1b003520d689ae8fe6eb32754e6e", func := "stow/stowkeep.Elaborated", spec := "elaborated", inPlace := ["internal/bytealg.CountString", "internal/bytealg.IndexByteString", "internal/bytealg.IndexString", "internal/abi.NoEscape", "internal/bytealg.MakeNoZero"], unfollowed := true, recurses := true, named := ["internal/bytealg.MaxLen", "unicode/utf8.first", "unicode/utf8.acceptRanges", "stow/prog.shapes", "stow/prog.typeWords", "strconv.ErrSyntax", "strconv.ErrRange", "internal/strconv.uint64pow10", "math/bits.deBruijn32tab", "math/bits.deBruijn64tab", "stow/prog.suffixes"], apart := false, laid := [("math/bits.deBruijn32tab", laid_math_bits_deBruijn32tab), ("math/bits.deBruijn64tab", laid_math_bits_deBruijn64tab), ("internal/strconv.uint64pow10", laid_internal_strconv_uint64pow10), ("unicode/utf8.acceptRanges", laid_unicode_utf8_acceptRanges), ("strconv.ErrRange", laid_strconv_ErrRange), ("strconv.ErrSyntax", laid_strconv_ErrSyntax), ("stow/prog.shapes", laid_stow_prog_shapes), ("stow/prog.typeWords", laid_stow_prog_typeWords), ("stow/prog.suffixes", laid_stow_prog_suffixes), ("unicode/utf8.first", laid_unicode_utf8_first)], narrowed := true }
def ElaboratedUptoSaid : Prop := elaboratedUptoRow.holds Tryz.pinned (OpenSpec.upto elaboratedSpec)

/-- 'stowkeep.Plain', WHERE WHAT IT READS IS OF BULK AT MOST 1048576: true; the input reads as it did. -/
def plainUptoRow : OpenClaim := { program := "ytmlgajhhnojdjaagreatdoor", sum := "02c6b5282f0f9b8d56ab627e3e4c66d9865e1b003520d689ae8fe6eb32754e6e", func := "stow/stowkeep.Plain", spec := "plain", inPlace := ["internal/bytealg.CountString", "internal/bytealg.IndexByteString", "internal/bytealg.IndexString", "internal/abi.NoEscape", "internal/bytealg.MakeNoZero"], unfollowed := true, recurses := true, named := ["internal/bytealg.MaxLen", "unicode/utf8.first", "unicode/utf8.acceptRanges", "stow/prog.shapes", "stow/prog.typeWords", "strconv.ErrSyntax", "strconv.ErrRange", "internal/strconv.uint64pow10", "math/bits.deBruijn32tab", "math/bits.deBruijn64tab", "stow/prog.suffixes"], apart := false, laid := [("math/bits.deBruijn32tab", laid_math_bits_deBruijn32tab), ("math/bits.deBruijn64tab", laid_math_bits_deBruijn64tab), ("internal/strconv.uint64pow10", laid_internal_strconv_uint64pow10), ("unicode/utf8.acceptRanges", laid_unicode_utf8_acceptRanges), ("strconv.ErrRange", laid_strconv_ErrRange), ("strconv.ErrSyntax", laid_strconv_ErrSyntax), ("stow/prog.shapes", laid_stow_prog_shapes), ("stow/prog.typeWords", laid_stow_prog_typeWords), ("stow/prog.suffixes", laid_stow_prog_suffixes), ("unicode/utf8.first", laid_unicode_utf8_first)], narrowed := true }
def PlainUptoSaid : Prop := plainUptoRow.holds Tryz.pinned (OpenSpec.upto plainSpec)

end Rows
end Go.Proofs.YtmlgajhhnojdjaaGreatDoor
