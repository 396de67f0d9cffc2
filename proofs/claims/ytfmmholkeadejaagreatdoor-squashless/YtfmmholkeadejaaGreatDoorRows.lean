/-
  NARROWER THAN 'FOR EVERY INPUT', by the rows' own cells (each row's printed sentence says how): CaskNil: laid · CaskKeeps: laid · CaskTurned: laid · CaskTwo: laid · CaskLast: laid · CaskFull: laid · SquashNil: laid · SquashTwo: laid · SquashOnce: laid · SquashCounts: laid · SquashLess: laid · SquashKeeps: laid.
  DERIVED. THE GIVEN ROWS OF THIS SEAT. 12 by the template 'for every input the law returns true; each argument reads behind the call as it read before'; 0 by the template 'total and deterministic' (their statements: YtfmmholkeadejaaGreatDoorTotals.lean).
  GIVEN WITH THE SEED: the statements are not yours to turn. If you find one false, say at which input.
  Laid BY PROGRAM, IN A SANDBOX (cutbox-rows.mjs): the forced cells as the released guide's own fill.sh prints them over the translation f13628cedafdfe99… (all of the seat's roots in one cut). By AI agents, Wed Nov 11 2026. No macro, syntax, notation, axiom, sorry.
-/
import Derived.Test.YtfmmholkeadejaaGreatDoorChecked
import GoSem.Claim
import GoSem.ClaimJoined
import GoSem.ClaimMapViews
import Derived.JoinedTies
import Derived.KernelRfl
namespace Go.Proofs.YtfmmholkeadejaaGreatDoor
/- THE CELL 'sum', in the pinned program and in every row, IS THE sha256 OF THE DUMP (.gsa) THAT YtfmmholkeadejaaGreatDoorProg.lean LOADS. Nothing in Lean hashes anything: it is a label: what it is worth is what the hold of that sum in a sandbox is worth. -/
noncomputable def Tryz.pinned : Pinned := { name := "ytfmmholkeadejaagreatdoor", sum := "f13628cedafdfe993603ff6e0372f7d134d9f2141869db9780d18f4cf100152a", checked := Tryz.checked }
namespace Rows
def none {H : Type} : Left H := { results := [], args := [] }

/- WHAT THE LISTED PACKAGE-LEVEL VARIABLES READ AS WHEN THE CALL BEGINS. Each datum BY PROGRAM (the guide's laid-datum.mjs) off the statement by which the dump's own 'gosem.cut.vars' lays the variable. In a bare row this is a premise. The card (YtfmmholkeadejaaGreatDoorCards.lean) ties it to the program's text. -/
def laid_math_bits_deBruijn32tab {H : Type} : DataW H := .agg [.lit (.int .u8 0), .lit (.int .u8 1), .lit (.int .u8 28), .lit (.int .u8 2), .lit (.int .u8 29), .lit (.int .u8 14), .lit (.int .u8 24), .lit (.int .u8 3), .lit (.int .u8 30), .lit (.int .u8 22), .lit (.int .u8 20), .lit (.int .u8 15), .lit (.int .u8 25), .lit (.int .u8 17), .lit (.int .u8 4), .lit (.int .u8 8), .lit (.int .u8 31), .lit (.int .u8 27), .lit (.int .u8 13), .lit (.int .u8 23), .lit (.int .u8 21), .lit (.int .u8 19), .lit (.int .u8 16), .lit (.int .u8 7), .lit (.int .u8 26), .lit (.int .u8 12), .lit (.int .u8 18), .lit (.int .u8 6), .lit (.int .u8 11), .lit (.int .u8 5), .lit (.int .u8 10), .lit (.int .u8 9)]
def laid_math_bits_deBruijn64tab {H : Type} : DataW H := .agg [.lit (.int .u8 0), .lit (.int .u8 1), .lit (.int .u8 56), .lit (.int .u8 2), .lit (.int .u8 57), .lit (.int .u8 49), .lit (.int .u8 28), .lit (.int .u8 3), .lit (.int .u8 61), .lit (.int .u8 58), .lit (.int .u8 42), .lit (.int .u8 50), .lit (.int .u8 38), .lit (.int .u8 29), .lit (.int .u8 17), .lit (.int .u8 4), .lit (.int .u8 62), .lit (.int .u8 47), .lit (.int .u8 59), .lit (.int .u8 36), .lit (.int .u8 45), .lit (.int .u8 43), .lit (.int .u8 51), .lit (.int .u8 22), .lit (.int .u8 53), .lit (.int .u8 39), .lit (.int .u8 33), .lit (.int .u8 30), .lit (.int .u8 24), .lit (.int .u8 18), .lit (.int .u8 12), .lit (.int .u8 5), .lit (.int .u8 63), .lit (.int .u8 55), .lit (.int .u8 48), .lit (.int .u8 27), .lit (.int .u8 60), .lit (.int .u8 41), .lit (.int .u8 37), .lit (.int .u8 16), .lit (.int .u8 46), .lit (.int .u8 35), .lit (.int .u8 44), .lit (.int .u8 21), .lit (.int .u8 52), .lit (.int .u8 32), .lit (.int .u8 23), .lit (.int .u8 11), .lit (.int .u8 54), .lit (.int .u8 26), .lit (.int .u8 40), .lit (.int .u8 15), .lit (.int .u8 34), .lit (.int .u8 20), .lit (.int .u8 31), .lit (.int .u8 10), .lit (.int .u8 25), .lit (.int .u8 14), .lit (.int .u8 19), .lit (.int .u8 9), .lit (.int .u8 13), .lit (.int .u8 8), .lit (.int .u8 7), .lit (.int .u8 6)]
def laid_internal_strconv_uint64pow10 {H : Type} : DataW H := .agg [.lit (.int .u64 1), .lit (.int .u64 10), .lit (.int .u64 100), .lit (.int .u64 1000), .lit (.int .u64 10000), .lit (.int .u64 100000), .lit (.int .u64 1000000), .lit (.int .u64 10000000), .lit (.int .u64 100000000), .lit (.int .u64 1000000000), .lit (.int .u64 10000000000), .lit (.int .u64 100000000000), .lit (.int .u64 1000000000000), .lit (.int .u64 10000000000000), .lit (.int .u64 100000000000000), .lit (.int .u64 1000000000000000), .lit (.int .u64 10000000000000000), .lit (.int .u64 100000000000000000), .lit (.int .u64 1000000000000000000), .lit (.int .u64 10000000000000000000)]

/-- 'murmurationlaw04.CaskNil': WHATEVER THE INPUT: true; the input reads as it did. -/
def caskNilSpec : ChangeSpec := { name := "caskNil", fn := fun _ => fun
  | [d] => { results := [.lit (.bool true)], args := [d] }
  | _ => none }
def caskNilRow : OpenClaim := { program := "ytfmmholkeadejaagreatdoor", sum := "f13628cedafdfe993603ff6e0372f7d134d9f2141869db9780d18f4cf100152a", func := "murmuration/murmurationlaw04.CaskNil", spec := "caskNil", inPlace := ["internal/bytealg.abigen_runtime_cmpstring"], unfollowed := true, recurses := true, named := ["internal/strconv.uint64pow10", "math/bits.deBruijn32tab", "math/bits.deBruijn64tab"], apart := false, laid := [("math/bits.deBruijn32tab", laid_math_bits_deBruijn32tab), ("math/bits.deBruijn64tab", laid_math_bits_deBruijn64tab), ("internal/strconv.uint64pow10", laid_internal_strconv_uint64pow10)] }
def CaskNilSaid : Prop := caskNilRow.holds Tryz.pinned (OpenSpec.ofChange caskNilSpec)

/-- ITS FALSE NEIGHBOUR: 'it returns false'. Refute it at one input. -/
def caskNilWrong : ChangeSpec := { name := "caskNil", fn := fun _ => fun
  | [d] => { results := [.lit (.bool false)], args := [d] }
  | _ => none }
def CaskNilWrongFalsely : Prop := caskNilRow.holds Tryz.pinned (OpenSpec.ofChange caskNilWrong)

/-- 'murmurationlaw04.CaskKeeps': WHATEVER THE INPUT: true; the input reads as it did. -/
def caskKeepsSpec : ChangeSpec := { name := "caskKeeps", fn := fun _ => fun
  | [d] => { results := [.lit (.bool true)], args := [d] }
  | _ => none }
def caskKeepsRow : OpenClaim := { program := "ytfmmholkeadejaagreatdoor", sum := "f13628cedafdfe993603ff6e0372f7d134d9f2141869db9780d18f4cf100152a", func := "murmuration/murmurationlaw04.CaskKeeps", spec := "caskKeeps", inPlace := ["internal/bytealg.abigen_runtime_cmpstring"], unfollowed := true, recurses := true, named := ["internal/strconv.uint64pow10", "math/bits.deBruijn32tab", "math/bits.deBruijn64tab"], apart := false, laid := [("math/bits.deBruijn32tab", laid_math_bits_deBruijn32tab), ("math/bits.deBruijn64tab", laid_math_bits_deBruijn64tab), ("internal/strconv.uint64pow10", laid_internal_strconv_uint64pow10)] }
def CaskKeepsSaid : Prop := caskKeepsRow.holds Tryz.pinned (OpenSpec.ofChange caskKeepsSpec)

/-- ITS FALSE NEIGHBOUR: 'it returns false'. Refute it at one input. -/
def caskKeepsWrong : ChangeSpec := { name := "caskKeeps", fn := fun _ => fun
  | [d] => { results := [.lit (.bool false)], args := [d] }
  | _ => none }
def CaskKeepsWrongFalsely : Prop := caskKeepsRow.holds Tryz.pinned (OpenSpec.ofChange caskKeepsWrong)

/-- 'murmurationlaw04.CaskTurned': WHATEVER THE INPUT: true; the input reads as it did. -/
def caskTurnedSpec : ChangeSpec := { name := "caskTurned", fn := fun _ => fun
  | [d1, d2, d3] => { results := [.lit (.bool true)], args := [d1, d2, d3] }
  | _ => none }
def caskTurnedRow : OpenClaim := { program := "ytfmmholkeadejaagreatdoor", sum := "f13628cedafdfe993603ff6e0372f7d134d9f2141869db9780d18f4cf100152a", func := "murmuration/murmurationlaw04.CaskTurned", spec := "caskTurned", inPlace := ["internal/bytealg.abigen_runtime_cmpstring"], unfollowed := true, recurses := true, named := ["internal/strconv.uint64pow10", "math/bits.deBruijn32tab", "math/bits.deBruijn64tab"], apart := false, laid := [("math/bits.deBruijn32tab", laid_math_bits_deBruijn32tab), ("math/bits.deBruijn64tab", laid_math_bits_deBruijn64tab), ("internal/strconv.uint64pow10", laid_internal_strconv_uint64pow10)] }
def CaskTurnedSaid : Prop := caskTurnedRow.holds Tryz.pinned (OpenSpec.ofChange caskTurnedSpec)

/-- ITS FALSE NEIGHBOUR: 'it returns false'. Refute it at one input. -/
def caskTurnedWrong : ChangeSpec := { name := "caskTurned", fn := fun _ => fun
  | [d1, d2, d3] => { results := [.lit (.bool false)], args := [d1, d2, d3] }
  | _ => none }
def CaskTurnedWrongFalsely : Prop := caskTurnedRow.holds Tryz.pinned (OpenSpec.ofChange caskTurnedWrong)

/-- 'murmurationlaw04.CaskTwo': WHATEVER THE INPUT: true; the input reads as it did. -/
def caskTwoSpec : ChangeSpec := { name := "caskTwo", fn := fun _ => fun
  | [d1, d2] => { results := [.lit (.bool true)], args := [d1, d2] }
  | _ => none }
def caskTwoRow : OpenClaim := { program := "ytfmmholkeadejaagreatdoor", sum := "f13628cedafdfe993603ff6e0372f7d134d9f2141869db9780d18f4cf100152a", func := "murmuration/murmurationlaw04.CaskTwo", spec := "caskTwo", inPlace := ["internal/bytealg.abigen_runtime_cmpstring"], unfollowed := true, recurses := true, named := ["internal/strconv.uint64pow10", "math/bits.deBruijn32tab", "math/bits.deBruijn64tab"], apart := false, laid := [("math/bits.deBruijn32tab", laid_math_bits_deBruijn32tab), ("math/bits.deBruijn64tab", laid_math_bits_deBruijn64tab), ("internal/strconv.uint64pow10", laid_internal_strconv_uint64pow10)] }
def CaskTwoSaid : Prop := caskTwoRow.holds Tryz.pinned (OpenSpec.ofChange caskTwoSpec)

/-- ITS FALSE NEIGHBOUR: 'it returns false'. Refute it at one input. -/
def caskTwoWrong : ChangeSpec := { name := "caskTwo", fn := fun _ => fun
  | [d1, d2] => { results := [.lit (.bool false)], args := [d1, d2] }
  | _ => none }
def CaskTwoWrongFalsely : Prop := caskTwoRow.holds Tryz.pinned (OpenSpec.ofChange caskTwoWrong)

/-- 'murmurationlaw04.CaskLast': WHATEVER THE INPUT: true; the input reads as it did. -/
def caskLastSpec : ChangeSpec := { name := "caskLast", fn := fun _ => fun
  | [d1, d2] => { results := [.lit (.bool true)], args := [d1, d2] }
  | _ => none }
def caskLastRow : OpenClaim := { program := "ytfmmholkeadejaagreatdoor", sum := "f13628cedafdfe993603ff6e0372f7d134d9f2141869db9780d18f4cf100152a", func := "murmuration/murmurationlaw04.CaskLast", spec := "caskLast", inPlace := ["internal/bytealg.abigen_runtime_cmpstring"], unfollowed := true, recurses := true, named := ["internal/strconv.uint64pow10", "math/bits.deBruijn32tab", "math/bits.deBruijn64tab"], apart := false, laid := [("math/bits.deBruijn32tab", laid_math_bits_deBruijn32tab), ("math/bits.deBruijn64tab", laid_math_bits_deBruijn64tab), ("internal/strconv.uint64pow10", laid_internal_strconv_uint64pow10)] }
def CaskLastSaid : Prop := caskLastRow.holds Tryz.pinned (OpenSpec.ofChange caskLastSpec)

/-- ITS FALSE NEIGHBOUR: 'it returns false'. Refute it at one input. -/
def caskLastWrong : ChangeSpec := { name := "caskLast", fn := fun _ => fun
  | [d1, d2] => { results := [.lit (.bool false)], args := [d1, d2] }
  | _ => none }
def CaskLastWrongFalsely : Prop := caskLastRow.holds Tryz.pinned (OpenSpec.ofChange caskLastWrong)

/-- 'murmurationlaw04.CaskFull': WHATEVER THE INPUT: true; the input reads as it did. -/
def caskFullSpec : ChangeSpec := { name := "caskFull", fn := fun _ => fun
  | [d1, d2] => { results := [.lit (.bool true)], args := [d1, d2] }
  | _ => none }
def caskFullRow : OpenClaim := { program := "ytfmmholkeadejaagreatdoor", sum := "f13628cedafdfe993603ff6e0372f7d134d9f2141869db9780d18f4cf100152a", func := "murmuration/murmurationlaw04.CaskFull", spec := "caskFull", inPlace := ["internal/bytealg.abigen_runtime_cmpstring"], unfollowed := true, recurses := true, named := ["internal/strconv.uint64pow10", "math/bits.deBruijn32tab", "math/bits.deBruijn64tab"], apart := false, laid := [("math/bits.deBruijn32tab", laid_math_bits_deBruijn32tab), ("math/bits.deBruijn64tab", laid_math_bits_deBruijn64tab), ("internal/strconv.uint64pow10", laid_internal_strconv_uint64pow10)] }
def CaskFullSaid : Prop := caskFullRow.holds Tryz.pinned (OpenSpec.ofChange caskFullSpec)

/-- ITS FALSE NEIGHBOUR: 'it returns false'. Refute it at one input. -/
def caskFullWrong : ChangeSpec := { name := "caskFull", fn := fun _ => fun
  | [d1, d2] => { results := [.lit (.bool false)], args := [d1, d2] }
  | _ => none }
def CaskFullWrongFalsely : Prop := caskFullRow.holds Tryz.pinned (OpenSpec.ofChange caskFullWrong)

/-- 'murmurationlaw05.SquashNil': WHATEVER THE INPUT: true; the input reads as it did. -/
def squashNilSpec : ChangeSpec := { name := "squashNil", fn := fun _ => fun
  | [d] => { results := [.lit (.bool true)], args := [d] }
  | _ => none }
def squashNilRow : OpenClaim := { program := "ytfmmholkeadejaagreatdoor", sum := "f13628cedafdfe993603ff6e0372f7d134d9f2141869db9780d18f4cf100152a", func := "murmuration/murmurationlaw05.SquashNil", spec := "squashNil", inPlace := ["internal/bytealg.abigen_runtime_cmpstring"], unfollowed := true, recurses := true, named := ["internal/strconv.uint64pow10", "math/bits.deBruijn32tab", "math/bits.deBruijn64tab"], apart := false, laid := [("math/bits.deBruijn32tab", laid_math_bits_deBruijn32tab), ("math/bits.deBruijn64tab", laid_math_bits_deBruijn64tab), ("internal/strconv.uint64pow10", laid_internal_strconv_uint64pow10)] }
def SquashNilSaid : Prop := squashNilRow.holds Tryz.pinned (OpenSpec.ofChange squashNilSpec)

/-- ITS FALSE NEIGHBOUR: 'it returns false'. Refute it at one input. -/
def squashNilWrong : ChangeSpec := { name := "squashNil", fn := fun _ => fun
  | [d] => { results := [.lit (.bool false)], args := [d] }
  | _ => none }
def SquashNilWrongFalsely : Prop := squashNilRow.holds Tryz.pinned (OpenSpec.ofChange squashNilWrong)

/-- 'murmurationlaw05.SquashTwo': WHATEVER THE INPUT: true; the input reads as it did. -/
def squashTwoSpec : ChangeSpec := { name := "squashTwo", fn := fun _ => fun
  | [d] => { results := [.lit (.bool true)], args := [d] }
  | _ => none }
def squashTwoRow : OpenClaim := { program := "ytfmmholkeadejaagreatdoor", sum := "f13628cedafdfe993603ff6e0372f7d134d9f2141869db9780d18f4cf100152a", func := "murmuration/murmurationlaw05.SquashTwo", spec := "squashTwo", inPlace := ["internal/bytealg.abigen_runtime_cmpstring"], unfollowed := true, recurses := true, named := ["internal/strconv.uint64pow10", "math/bits.deBruijn32tab", "math/bits.deBruijn64tab"], apart := false, laid := [("math/bits.deBruijn32tab", laid_math_bits_deBruijn32tab), ("math/bits.deBruijn64tab", laid_math_bits_deBruijn64tab), ("internal/strconv.uint64pow10", laid_internal_strconv_uint64pow10)] }
def SquashTwoSaid : Prop := squashTwoRow.holds Tryz.pinned (OpenSpec.ofChange squashTwoSpec)

/-- ITS FALSE NEIGHBOUR: 'it returns false'. Refute it at one input. -/
def squashTwoWrong : ChangeSpec := { name := "squashTwo", fn := fun _ => fun
  | [d] => { results := [.lit (.bool false)], args := [d] }
  | _ => none }
def SquashTwoWrongFalsely : Prop := squashTwoRow.holds Tryz.pinned (OpenSpec.ofChange squashTwoWrong)

/-- 'murmurationlaw05.SquashOnce': WHATEVER THE INPUT: true; the input reads as it did. -/
def squashOnceSpec : ChangeSpec := { name := "squashOnce", fn := fun _ => fun
  | [d] => { results := [.lit (.bool true)], args := [d] }
  | _ => none }
def squashOnceRow : OpenClaim := { program := "ytfmmholkeadejaagreatdoor", sum := "f13628cedafdfe993603ff6e0372f7d134d9f2141869db9780d18f4cf100152a", func := "murmuration/murmurationlaw05.SquashOnce", spec := "squashOnce", inPlace := ["internal/bytealg.abigen_runtime_cmpstring"], unfollowed := true, recurses := true, named := ["internal/strconv.uint64pow10", "math/bits.deBruijn32tab", "math/bits.deBruijn64tab"], apart := false, laid := [("math/bits.deBruijn32tab", laid_math_bits_deBruijn32tab), ("math/bits.deBruijn64tab", laid_math_bits_deBruijn64tab), ("internal/strconv.uint64pow10", laid_internal_strconv_uint64pow10)] }
def SquashOnceSaid : Prop := squashOnceRow.holds Tryz.pinned (OpenSpec.ofChange squashOnceSpec)

/-- ITS FALSE NEIGHBOUR: 'it returns false'. Refute it at one input. -/
def squashOnceWrong : ChangeSpec := { name := "squashOnce", fn := fun _ => fun
  | [d] => { results := [.lit (.bool false)], args := [d] }
  | _ => none }
def SquashOnceWrongFalsely : Prop := squashOnceRow.holds Tryz.pinned (OpenSpec.ofChange squashOnceWrong)

/-- 'murmurationlaw05.SquashCounts': WHATEVER THE INPUT: true; the input reads as it did. -/
def squashCountsSpec : ChangeSpec := { name := "squashCounts", fn := fun _ => fun
  | [d1, d2] => { results := [.lit (.bool true)], args := [d1, d2] }
  | _ => none }
def squashCountsRow : OpenClaim := { program := "ytfmmholkeadejaagreatdoor", sum := "f13628cedafdfe993603ff6e0372f7d134d9f2141869db9780d18f4cf100152a", func := "murmuration/murmurationlaw05.SquashCounts", spec := "squashCounts", inPlace := ["internal/bytealg.abigen_runtime_cmpstring"], unfollowed := true, recurses := true, named := ["internal/strconv.uint64pow10", "math/bits.deBruijn32tab", "math/bits.deBruijn64tab"], apart := false, laid := [("math/bits.deBruijn32tab", laid_math_bits_deBruijn32tab), ("math/bits.deBruijn64tab", laid_math_bits_deBruijn64tab), ("internal/strconv.uint64pow10", laid_internal_strconv_uint64pow10)] }
def SquashCountsSaid : Prop := squashCountsRow.holds Tryz.pinned (OpenSpec.ofChange squashCountsSpec)

/-- ITS FALSE NEIGHBOUR: 'it returns false'. Refute it at one input. -/
def squashCountsWrong : ChangeSpec := { name := "squashCounts", fn := fun _ => fun
  | [d1, d2] => { results := [.lit (.bool false)], args := [d1, d2] }
  | _ => none }
def SquashCountsWrongFalsely : Prop := squashCountsRow.holds Tryz.pinned (OpenSpec.ofChange squashCountsWrong)

/-- 'murmurationlaw05.SquashLess': WHATEVER THE INPUT: true; the input reads as it did. -/
def squashLessSpec : ChangeSpec := { name := "squashLess", fn := fun _ => fun
  | [d] => { results := [.lit (.bool true)], args := [d] }
  | _ => none }
def squashLessRow : OpenClaim := { program := "ytfmmholkeadejaagreatdoor", sum := "f13628cedafdfe993603ff6e0372f7d134d9f2141869db9780d18f4cf100152a", func := "murmuration/murmurationlaw05.SquashLess", spec := "squashLess", inPlace := ["internal/bytealg.abigen_runtime_cmpstring"], unfollowed := true, recurses := true, named := ["internal/strconv.uint64pow10", "math/bits.deBruijn32tab", "math/bits.deBruijn64tab"], apart := false, laid := [("math/bits.deBruijn32tab", laid_math_bits_deBruijn32tab), ("math/bits.deBruijn64tab", laid_math_bits_deBruijn64tab), ("internal/strconv.uint64pow10", laid_internal_strconv_uint64pow10)] }
def SquashLessSaid : Prop := squashLessRow.holds Tryz.pinned (OpenSpec.ofChange squashLessSpec)

/-- ITS FALSE NEIGHBOUR: 'it returns false'. Refute it at one input. -/
def squashLessWrong : ChangeSpec := { name := "squashLess", fn := fun _ => fun
  | [d] => { results := [.lit (.bool false)], args := [d] }
  | _ => none }
def SquashLessWrongFalsely : Prop := squashLessRow.holds Tryz.pinned (OpenSpec.ofChange squashLessWrong)

/-- 'murmurationlaw05.SquashKeeps': WHATEVER THE INPUT: true; the input reads as it did. -/
def squashKeepsSpec : ChangeSpec := { name := "squashKeeps", fn := fun _ => fun
  | [d1, d2, d3] => { results := [.lit (.bool true)], args := [d1, d2, d3] }
  | _ => none }
def squashKeepsRow : OpenClaim := { program := "ytfmmholkeadejaagreatdoor", sum := "f13628cedafdfe993603ff6e0372f7d134d9f2141869db9780d18f4cf100152a", func := "murmuration/murmurationlaw05.SquashKeeps", spec := "squashKeeps", inPlace := ["internal/bytealg.abigen_runtime_cmpstring"], unfollowed := true, recurses := true, named := ["internal/strconv.uint64pow10", "math/bits.deBruijn32tab", "math/bits.deBruijn64tab"], apart := false, laid := [("math/bits.deBruijn32tab", laid_math_bits_deBruijn32tab), ("math/bits.deBruijn64tab", laid_math_bits_deBruijn64tab), ("internal/strconv.uint64pow10", laid_internal_strconv_uint64pow10)] }
def SquashKeepsSaid : Prop := squashKeepsRow.holds Tryz.pinned (OpenSpec.ofChange squashKeepsSpec)

/-- ITS FALSE NEIGHBOUR: 'it returns false'. Refute it at one input. -/
def squashKeepsWrong : ChangeSpec := { name := "squashKeeps", fn := fun _ => fun
  | [d1, d2, d3] => { results := [.lit (.bool false)], args := [d1, d2, d3] }
  | _ => none }
def SquashKeepsWrongFalsely : Prop := squashKeepsRow.holds Tryz.pinned (OpenSpec.ofChange squashKeepsWrong)

/- THE SECOND FORM. 'bulk': how many values and letters a reading holds, each counted each time it is reached (what is shared counts as often as it is met; a slice's spare places count too). A statement '..UptoSaid' is the law's where the arguments, and the package variables that the reading takes, are together of bulk at most 1048576: NARROWER than '..Said'. Prove '..Said' where nothing that the law and all that it calls make is longer than what came in: it says more and counts as full. Else prove '..UptoSaid'. A law counts once. -/
mutual
def uptoBulk {H : Type} : DataW H → Nat
  | .lit (.string bytes) => bytes.length + 1
  | .lit _ => 1
  | .nil => 1
  | .ptr d => uptoBulk d + 1
  | .slice elems spare => uptoBulkAll elems + uptoBulkAll spare + 1
  | .agg parts => uptoBulkAll parts + 1
  | .iface _ d => uptoBulk d + 1
  | .map entries => uptoBulkEntries entries + 1
  | .held _ => 1
def uptoBulkAll {H : Type} : List (DataW H) → Nat
  | [] => 0
  | d :: r => uptoBulk d + uptoBulkAll r
def uptoBulkEntries {H : Type} : List (Lit × DataW H) → Nat
  | [] => 0
  | x :: r => uptoBulkEntry x + uptoBulkEntries r
def uptoBulkEntry {H : Type} : Lit × DataW H → Nat
  | (.string bytes, d) => bytes.length + uptoBulk d + 1
  | (_, d) => uptoBulk d + 1
 end
def uptoSmall : (H : Type) → List (DataW H) → Bool := fun _ ds => decide (uptoBulkAll ds ≤ 1048576)
def OpenSpec.upto (s : _root_.Go.ChangeSpec) : _root_.Go.OpenSpec := { _root_.Go.OpenSpec.ofChange s with cond := some uptoSmall }

/-- 'murmurationlaw04.CaskNil', WHERE WHAT IT READS IS OF BULK AT MOST 1048576: true; the input reads as it did. -/
def caskNilUptoRow : OpenClaim := { program := "ytfmmholkeadejaagreatdoor", sum := "f13628cedafdfe993603ff6e0372f7d134d9f2141869db9780d18f4cf100152a", func := "murmuration/murmurationlaw04.CaskNil", spec := "caskNil", inPlace := ["internal/bytealg.abigen_runtime_cmpstring"], unfollowed := true, recurses := true, named := ["internal/strconv.uint64pow10", "math/bits.deBruijn32tab", "math/bits.deBruijn64tab"], apart := false, laid := [("math/bits.deBruijn32tab", laid_math_bits_deBruijn32tab), ("math/bits.deBruijn64tab", laid_math_bits_deBruijn64tab), ("internal/strconv.uint64pow10", laid_internal_strconv_uint64pow10)], narrowed := true }
def CaskNilUptoSaid : Prop := caskNilUptoRow.holds Tryz.pinned (OpenSpec.upto caskNilSpec)

/-- 'murmurationlaw04.CaskKeeps', WHERE WHAT IT READS IS OF BULK AT MOST 1048576: true; the input reads as it did. -/
def caskKeepsUptoRow : OpenClaim := { program := "ytfmmholkeadejaagreatdoor", sum := "f13628cedafdfe993603ff6e0372f7d134d9f2141869db9780d18f4cf100152a", func := "murmuration/murmurationlaw04.CaskKeeps", spec := "caskKeeps", inPlace := ["internal/bytealg.abigen_runtime_cmpstring"], unfollowed := true, recurses := true, named := ["internal/strconv.uint64pow10", "math/bits.deBruijn32tab", "math/bits.deBruijn64tab"], apart := false, laid := [("math/bits.deBruijn32tab", laid_math_bits_deBruijn32tab), ("math/bits.deBruijn64tab", laid_math_bits_deBruijn64tab), ("internal/strconv.uint64pow10", laid_internal_strconv_uint64pow10)], narrowed := true }
def CaskKeepsUptoSaid : Prop := caskKeepsUptoRow.holds Tryz.pinned (OpenSpec.upto caskKeepsSpec)

/-- 'murmurationlaw04.CaskTurned', WHERE WHAT IT READS IS OF BULK AT MOST 1048576: true; the input reads as it did. -/
def caskTurnedUptoRow : OpenClaim := { program := "ytfmmholkeadejaagreatdoor", sum := "f13628cedafdfe993603ff6e0372f7d134d9f2141869db9780d18f4cf100152a", func := "murmuration/murmurationlaw04.CaskTurned", spec := "caskTurned", inPlace := ["internal/bytealg.abigen_runtime_cmpstring"], unfollowed := true, recurses := true, named := ["internal/strconv.uint64pow10", "math/bits.deBruijn32tab", "math/bits.deBruijn64tab"], apart := false, laid := [("math/bits.deBruijn32tab", laid_math_bits_deBruijn32tab), ("math/bits.deBruijn64tab", laid_math_bits_deBruijn64tab), ("internal/strconv.uint64pow10", laid_internal_strconv_uint64pow10)], narrowed := true }
def CaskTurnedUptoSaid : Prop := caskTurnedUptoRow.holds Tryz.pinned (OpenSpec.upto caskTurnedSpec)

/-- 'murmurationlaw04.CaskTwo', WHERE WHAT IT READS IS OF BULK AT MOST 1048576: true; the input reads as it did. -/
def caskTwoUptoRow : OpenClaim := { program := "ytfmmholkeadejaagreatdoor", sum := "f13628cedafdfe993603ff6e0372f7d134d9f2141869db9780d18f4cf100152a", func := "murmuration/murmurationlaw04.CaskTwo", spec := "caskTwo", inPlace := ["internal/bytealg.abigen_runtime_cmpstring"], unfollowed := true, recurses := true, named := ["internal/strconv.uint64pow10", "math/bits.deBruijn32tab", "math/bits.deBruijn64tab"], apart := false, laid := [("math/bits.deBruijn32tab", laid_math_bits_deBruijn32tab), ("math/bits.deBruijn64tab", laid_math_bits_deBruijn64tab), ("internal/strconv.uint64pow10", laid_internal_strconv_uint64pow10)], narrowed := true }
def CaskTwoUptoSaid : Prop := caskTwoUptoRow.holds Tryz.pinned (OpenSpec.upto caskTwoSpec)

/-- 'murmurationlaw04.CaskLast', WHERE WHAT IT READS IS OF BULK AT MOST 1048576: true; the input reads as it did. -/
def caskLastUptoRow : OpenClaim := { program := "ytfmmholkeadejaagreatdoor", sum := "f13628cedafdfe993603ff6e0372f7d134d9f2141869db9780d18f4cf100152a", func := "murmuration/murmurationlaw04.CaskLast", spec := "caskLast", inPlace := ["internal/bytealg.abigen_runtime_cmpstring"], unfollowed := true, recurses := true, named := ["internal/strconv.uint64pow10", "math/bits.deBruijn32tab", "math/bits.deBruijn64tab"], apart := false, laid := [("math/bits.deBruijn32tab", laid_math_bits_deBruijn32tab), ("math/bits.deBruijn64tab", laid_math_bits_deBruijn64tab), ("internal/strconv.uint64pow10", laid_internal_strconv_uint64pow10)], narrowed := true }
def CaskLastUptoSaid : Prop := caskLastUptoRow.holds Tryz.pinned (OpenSpec.upto caskLastSpec)

/-- 'murmurationlaw04.CaskFull', WHERE WHAT IT READS IS OF BULK AT MOST 1048576: true; the input reads as it did. -/
def caskFullUptoRow : OpenClaim := { program := "ytfmmholkeadejaagreatdoor", sum := "f13628cedafdfe993603ff6e0372f7d134d9f2141869db9780d18f4cf100152a", func := "murmuration/murmurationlaw04.CaskFull", spec := "caskFull", inPlace := ["internal/bytealg.abigen_runtime_cmpstring"], unfollowed := true, recurses := true, named := ["internal/strconv.uint64pow10", "math/bits.deBruijn32tab", "math/bits.deBruijn64tab"], apart := false, laid := [("math/bits.deBruijn32tab", laid_math_bits_deBruijn32tab), ("math/bits.deBruijn64tab", laid_math_bits_deBruijn64tab), ("internal/strconv.uint64pow10", laid_internal_strconv_uint64pow10)], narrowed := true }
def CaskFullUptoSaid : Prop := caskFullUptoRow.holds Tryz.pinned (OpenSpec.upto caskFullSpec)

/-- 'murmurationlaw05.SquashNil', WHERE WHAT IT READS IS OF BULK AT MOST 1048576: true; the input reads as it did. -/
def squashNilUptoRow : OpenClaim := { program := "ytfmmholkeadejaagreatdoor", sum := "f13628cedafdfe993603ff6e0372f7d134d9f2141869db9780d18f4cf100152a", func := "murmuration/murmurationlaw05.SquashNil", spec := "squashNil", inPlace := ["internal/bytealg.abigen_runtime_cmpstring"], unfollowed := true, recurses := true, named := ["internal/strconv.uint64pow10", "math/bits.deBruijn32tab", "math/bits.deBruijn64tab"], apart := false, laid := [("math/bits.deBruijn32tab", laid_math_bits_deBruijn32tab), ("math/bits.deBruijn64tab", laid_math_bits_deBruijn64tab), ("internal/strconv.uint64pow10", laid_internal_strconv_uint64pow10)], narrowed := true }
def SquashNilUptoSaid : Prop := squashNilUptoRow.holds Tryz.pinned (OpenSpec.upto squashNilSpec)

/-- 'murmurationlaw05.SquashTwo', WHERE WHAT IT READS IS OF BULK AT MOST 1048576: true; the input reads as it did. -/
def squashTwoUptoRow : OpenClaim := { program := "ytfmmholkeadejaagreatdoor", sum := "f13628cedafdfe993603ff6e0372f7d134d9f2141869db9780d18f4cf100152a", func := "murmuration/murmurationlaw05.SquashTwo", spec := "squashTwo", inPlace := ["internal/bytealg.abigen_runtime_cmpstring"], unfollowed := true, recurses := true, named := ["internal/strconv.uint64pow10", "math/bits.deBruijn32tab", "math/bits.deBruijn64tab"], apart := false, laid := [("math/bits.deBruijn32tab", laid_math_bits_deBruijn32tab), ("math/bits.deBruijn64tab", laid_math_bits_deBruijn64tab), ("internal/strconv.uint64pow10", laid_internal_strconv_uint64pow10)], narrowed := true }
def SquashTwoUptoSaid : Prop := squashTwoUptoRow.holds Tryz.pinned (OpenSpec.upto squashTwoSpec)

/-- 'murmurationlaw05.SquashOnce', WHERE WHAT IT READS IS OF BULK AT MOST 1048576: true; the input reads as it did. -/
def squashOnceUptoRow : OpenClaim := { program := "ytfmmholkeadejaagreatdoor", sum := "f13628cedafdfe993603ff6e0372f7d134d9f2141869db9780d18f4cf100152a", func := "murmuration/murmurationlaw05.SquashOnce", spec := "squashOnce", inPlace := ["internal/bytealg.abigen_runtime_cmpstring"], unfollowed := true, recurses := true, named := ["internal/strconv.uint64pow10", "math/bits.deBruijn32tab", "math/bits.deBruijn64tab"], apart := false, laid := [("math/bits.deBruijn32tab", laid_math_bits_deBruijn32tab), ("math/bits.deBruijn64tab", laid_math_bits_deBruijn64tab), ("internal/strconv.uint64pow10", laid_internal_strconv_uint64pow10)], narrowed := true }
def SquashOnceUptoSaid : Prop := squashOnceUptoRow.holds Tryz.pinned (OpenSpec.upto squashOnceSpec)

/-- 'murmurationlaw05.SquashCounts', WHERE WHAT IT READS IS OF BULK AT MOST 1048576: true; the input reads as it did. -/
def squashCountsUptoRow : OpenClaim := { program := "ytfmmholkeadejaagreatdoor", sum := "f13628cedafdfe993603ff6e0372f7d134d9f2141869db9780d18f4cf100152a", func := "murmuration/murmurationlaw05.SquashCounts", spec := "squashCounts", inPlace := ["internal/bytealg.abigen_runtime_cmpstring"], unfollowed := true, recurses := true, named := ["internal/strconv.uint64pow10", "math/bits.deBruijn32tab", "math/bits.deBruijn64tab"], apart := false, laid := [("math/bits.deBruijn32tab", laid_math_bits_deBruijn32tab), ("math/bits.deBruijn64tab", laid_math_bits_deBruijn64tab), ("internal/strconv.uint64pow10", laid_internal_strconv_uint64pow10)], narrowed := true }
def SquashCountsUptoSaid : Prop := squashCountsUptoRow.holds Tryz.pinned (OpenSpec.upto squashCountsSpec)

/-- 'murmurationlaw05.SquashLess', WHERE WHAT IT READS IS OF BULK AT MOST 1048576: true; the input reads as it did. -/
def squashLessUptoRow : OpenClaim := { program := "ytfmmholkeadejaagreatdoor", sum := "f13628cedafdfe993603ff6e0372f7d134d9f2141869db9780d18f4cf100152a", func := "murmuration/murmurationlaw05.SquashLess", spec := "squashLess", inPlace := ["internal/bytealg.abigen_runtime_cmpstring"], unfollowed := true, recurses := true, named := ["internal/strconv.uint64pow10", "math/bits.deBruijn32tab", "math/bits.deBruijn64tab"], apart := false, laid := [("math/bits.deBruijn32tab", laid_math_bits_deBruijn32tab), ("math/bits.deBruijn64tab", laid_math_bits_deBruijn64tab), ("internal/strconv.uint64pow10", laid_internal_strconv_uint64pow10)], narrowed := true }
def SquashLessUptoSaid : Prop := squashLessUptoRow.holds Tryz.pinned (OpenSpec.upto squashLessSpec)

/-- 'murmurationlaw05.SquashKeeps', WHERE WHAT IT READS IS OF BULK AT MOST 1048576: true; the input reads as it did. -/
def squashKeepsUptoRow : OpenClaim := { program := "ytfmmholkeadejaagreatdoor", sum := "f13628cedafdfe993603ff6e0372f7d134d9f2141869db9780d18f4cf100152a", func := "murmuration/murmurationlaw05.SquashKeeps", spec := "squashKeeps", inPlace := ["internal/bytealg.abigen_runtime_cmpstring"], unfollowed := true, recurses := true, named := ["internal/strconv.uint64pow10", "math/bits.deBruijn32tab", "math/bits.deBruijn64tab"], apart := false, laid := [("math/bits.deBruijn32tab", laid_math_bits_deBruijn32tab), ("math/bits.deBruijn64tab", laid_math_bits_deBruijn64tab), ("internal/strconv.uint64pow10", laid_internal_strconv_uint64pow10)], narrowed := true }
def SquashKeepsUptoSaid : Prop := squashKeepsUptoRow.holds Tryz.pinned (OpenSpec.upto squashKeepsSpec)

end Rows
end Go.Proofs.YtfmmholkeadejaaGreatDoor
