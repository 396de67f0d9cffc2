/-
  No cell of these rows narrows 'for every input' (looked for: loops, veiled, ifaces, maps, wideKeys, modest, calm, conditions, laid).
  DERIVED. THE GIVEN ROWS OF THIS SEAT. 3 by the template 'for every input the law returns true; each argument reads behind the call as it read before'; 0 by the template 'total and deterministic' (their statements: YthmnjebmnocoiaaGreatTotals.lean).
  GIVEN WITH THE SEED: the statements are not yours to turn. If you find one false, say at which input.
  Laid BY PROGRAM, IN A SANDBOX (cutbox-rows.mjs): the forced cells as the released guide's own fill.sh prints them over the translation f99842ede2b28032… (all of the seat's roots in one cut). By AI agents, Wed Nov 11 2026. No macro, syntax, notation, axiom, sorry.
-/
import Derived.Test.YthmnjebmnocoiaaGreatChecked
import GoSem.Claim
import GoSem.ClaimJoined
import GoSem.ClaimMapViews
import Derived.JoinedTies
import Derived.KernelRfl
namespace Go.Proofs.YthmnjebmnocoiaaGreat
/- THE CELL 'sum', in the pinned program and in every row, IS THE sha256 OF THE DUMP (.gsa) THAT YthmnjebmnocoiaaGreatProg.lean LOADS. Nothing in Lean hashes anything: it is a label: what it is worth is what the hold of that sum in a sandbox is worth. -/
noncomputable def Tryz.pinned : Pinned := { name := "ythmnjebmnocoiaagreat", sum := "f99842ede2b28032c32026990f1334343055082ed5293be66881729ca0b1a760", checked := Tryz.checked }
namespace Rows
def none {H : Type} : Left H := { results := [], args := [] }

/-- 'murmurationlaw12.GossipMakes': WHATEVER THE INPUT: true; the input reads as it did. -/
def gossipMakesSpec : ChangeSpec := { name := "gossipMakes", fn := fun _ => fun
  | [d1, d2, d3] => { results := [.lit (.bool true)], args := [d1, d2, d3] }
  | _ => none }
def gossipMakesRow : OpenClaim := { program := "ythmnjebmnocoiaagreat", sum := "f99842ede2b28032c32026990f1334343055082ed5293be66881729ca0b1a760", func := "murmuration/murmurationlaw12.GossipMakes", spec := "gossipMakes", unfollowed := true, recurses := true, apart := false }
def GossipMakesSaid : Prop := gossipMakesRow.holds Tryz.pinned (OpenSpec.ofChange gossipMakesSpec)

/-- ITS FALSE NEIGHBOUR: 'it returns false'. Refute it at one input. -/
def gossipMakesWrong : ChangeSpec := { name := "gossipMakes", fn := fun _ => fun
  | [d1, d2, d3] => { results := [.lit (.bool false)], args := [d1, d2, d3] }
  | _ => none }
def GossipMakesWrongFalsely : Prop := gossipMakesRow.holds Tryz.pinned (OpenSpec.ofChange gossipMakesWrong)

/-- 'murmurationlaw12.GossipReads': WHATEVER THE INPUT: true; the input reads as it did. -/
def gossipReadsSpec : ChangeSpec := { name := "gossipReads", fn := fun _ => fun
  | [d1, d2] => { results := [.lit (.bool true)], args := [d1, d2] }
  | _ => none }
def gossipReadsRow : OpenClaim := { program := "ythmnjebmnocoiaagreat", sum := "f99842ede2b28032c32026990f1334343055082ed5293be66881729ca0b1a760", func := "murmuration/murmurationlaw12.GossipReads", spec := "gossipReads", unfollowed := true, recurses := true, apart := false }
def GossipReadsSaid : Prop := gossipReadsRow.holds Tryz.pinned (OpenSpec.ofChange gossipReadsSpec)

/-- ITS FALSE NEIGHBOUR: 'it returns false'. Refute it at one input. -/
def gossipReadsWrong : ChangeSpec := { name := "gossipReads", fn := fun _ => fun
  | [d1, d2] => { results := [.lit (.bool false)], args := [d1, d2] }
  | _ => none }
def GossipReadsWrongFalsely : Prop := gossipReadsRow.holds Tryz.pinned (OpenSpec.ofChange gossipReadsWrong)

/-- 'murmurationlaw12.GossipSpreads': WHATEVER THE INPUT: true; the input reads as it did. -/
def gossipSpreadsSpec : ChangeSpec := { name := "gossipSpreads", fn := fun _ => fun
  | [d1, d2] => { results := [.lit (.bool true)], args := [d1, d2] }
  | _ => none }
def gossipSpreadsRow : OpenClaim := { program := "ythmnjebmnocoiaagreat", sum := "f99842ede2b28032c32026990f1334343055082ed5293be66881729ca0b1a760", func := "murmuration/murmurationlaw12.GossipSpreads", spec := "gossipSpreads", unfollowed := true, recurses := true, apart := false }
def GossipSpreadsSaid : Prop := gossipSpreadsRow.holds Tryz.pinned (OpenSpec.ofChange gossipSpreadsSpec)

/-- ITS FALSE NEIGHBOUR: 'it returns false'. Refute it at one input. -/
def gossipSpreadsWrong : ChangeSpec := { name := "gossipSpreads", fn := fun _ => fun
  | [d1, d2] => { results := [.lit (.bool false)], args := [d1, d2] }
  | _ => none }
def GossipSpreadsWrongFalsely : Prop := gossipSpreadsRow.holds Tryz.pinned (OpenSpec.ofChange gossipSpreadsWrong)

/- THE SECOND FORM. 'bulk': how many values and letters a reading holds, each counted each time it is reached (what is shared counts as often as it is met; a slice's spare places count too). A statement '..UptoSaid' is the law's where the arguments, and the package variables that the reading takes, are together of bulk at most 1048576: NARROWER than '..Said'. Prove '..Said' where nothing that the law and all that it calls make is longer than what came in: it says more and counts as full. Else prove '..UptoSaid'. A law counts once. -/
mutual
def uptoBulk {H : Type} : DataW H → Nat
  | .lit (.string bytes) => bytes.length + 1
  | .lit _ => 1
  | .nil => 1
  | .ptr d => uptoBulk d + 1
  | .slice elems spare => uptoBulkAll elems + uptoBulkAll spare + 1
  | .agg parts => uptoBulkAll parts + 1
  | .iface _ d => uptoBulk d + 1
  | .map entries => uptoBulkEntries entries + 1
  | .held _ => 1
def uptoBulkAll {H : Type} : List (DataW H) → Nat
  | [] => 0
  | d :: r => uptoBulk d + uptoBulkAll r
def uptoBulkEntries {H : Type} : List (Lit × DataW H) → Nat
  | [] => 0
  | x :: r => uptoBulkEntry x + uptoBulkEntries r
def uptoBulkEntry {H : Type} : Lit × DataW H → Nat
  | (.string bytes, d) => bytes.length + uptoBulk d + 1
  | (_, d) => uptoBulk d + 1
 end
def uptoSmall : (H : Type) → List (DataW H) → Bool := fun _ ds => decide (uptoBulkAll ds ≤ 1048576)
def OpenSpec.upto (s : _root_.Go.ChangeSpec) : _root_.Go.OpenSpec := { _root_.Go.OpenSpec.ofChange s with cond := some uptoSmall }

/-- 'murmurationlaw12.GossipMakes', WHERE WHAT IT READS IS OF BULK AT MOST 1048576: true; the input reads as it did. -/
def gossipMakesUptoRow : OpenClaim := { program := "ythmnjebmnocoiaagreat", sum := "f99842ede2b28032c32026990f1334343055082ed5293be66881729ca0b1a760", func := "murmuration/murmurationlaw12.GossipMakes", spec := "gossipMakes", unfollowed := true, recurses := true, apart := false, narrowed := true }
def GossipMakesUptoSaid : Prop := gossipMakesUptoRow.holds Tryz.pinned (OpenSpec.upto gossipMakesSpec)

/-- 'murmurationlaw12.GossipReads', WHERE WHAT IT READS IS OF BULK AT MOST 1048576: true; the input reads as it did. -/
def gossipReadsUptoRow : OpenClaim := { program := "ythmnjebmnocoiaagreat", sum := "f99842ede2b28032c32026990f1334343055082ed5293be66881729ca0b1a760", func := "murmuration/murmurationlaw12.GossipReads", spec := "gossipReads", unfollowed := true, recurses := true, apart := false, narrowed := true }
def GossipReadsUptoSaid : Prop := gossipReadsUptoRow.holds Tryz.pinned (OpenSpec.upto gossipReadsSpec)

/-- 'murmurationlaw12.GossipSpreads', WHERE WHAT IT READS IS OF BULK AT MOST 1048576: true; the input reads as it did. -/
def gossipSpreadsUptoRow : OpenClaim := { program := "ythmnjebmnocoiaagreat", sum := "f99842ede2b28032c32026990f1334343055082ed5293be66881729ca0b1a760", func := "murmuration/murmurationlaw12.GossipSpreads", spec := "gossipSpreads", unfollowed := true, recurses := true, apart := false, narrowed := true }
def GossipSpreadsUptoSaid : Prop := gossipSpreadsUptoRow.holds Tryz.pinned (OpenSpec.upto gossipSpreadsSpec)

end Rows
end Go.Proofs.YthmnjebmnocoiaaGreat
