/-
  No cell of these rows narrows 'for every input' (looked for: loops, veiled, ifaces, maps, wideKeys, modest, calm, conditions, laid).
  DERIVED. THE GIVEN ROWS OF THIS SEAT. 2 by the template 'for every input the law returns true; each argument reads behind the call as it read before'; 0 by the template 'total and deterministic' (their statements: YthmnjebmnocoiaaTotals.lean).
  GIVEN WITH THE SEED: the statements are not yours to turn. If you find one false, say at which input.
  Laid BY PROGRAM, IN A SANDBOX (cutbox-rows.mjs): the forced cells as the released guide's own fill.sh prints them over the translation 819b83f4cc1215ee… (all of the seat's roots in one cut). By AI agents, Wed Nov 11 2026. No macro, syntax, notation, axiom, sorry.
-/
import Derived.Test.YthmnjebmnocoiaaChecked
import GoSem.Claim
import GoSem.ClaimJoined
import GoSem.ClaimMapViews
import Derived.JoinedTies
import Derived.KernelRfl
namespace Go.Proofs.Ythmnjebmnocoiaa
/- THE CELL 'sum', in the pinned program and in every row, IS THE sha256 OF THE DUMP (.gsa) THAT YthmnjebmnocoiaaProg.lean LOADS. Nothing in Lean hashes anything: it is a label: what it is worth is what the hold of that sum in a sandbox is worth. -/
noncomputable def Try.pinned : Pinned := { name := "ythmnjebmnocoiaa", sum := "819b83f4cc1215eeb8b3135633c12c72c9c18362cc58ad7d51b1beb39e5bce4f", checked := Try.checked }
namespace Rows
def none {H : Type} : Left H := { results := [], args := [] }

/-- 'murmurationlaw12.GossipMerges': WHATEVER THE INPUT: true; the input reads as it did. -/
def gossipMergesSpec : ChangeSpec := { name := "gossipMerges", fn := fun _ => fun
  | [d1, d2] => { results := [.lit (.bool true)], args := [d1, d2] }
  | _ => none }
def gossipMergesRow : OpenClaim := { program := "ythmnjebmnocoiaa", sum := "819b83f4cc1215eeb8b3135633c12c72c9c18362cc58ad7d51b1beb39e5bce4f", func := "murmuration/murmurationlaw12.GossipMerges", spec := "gossipMerges", unfollowed := true, recurses := true, apart := false }
def GossipMergesSaid : Prop := gossipMergesRow.holds Try.pinned (OpenSpec.ofChange gossipMergesSpec)

/-- ITS FALSE NEIGHBOUR: 'it returns false'. Refute it at one input. -/
def gossipMergesWrong : ChangeSpec := { name := "gossipMerges", fn := fun _ => fun
  | [d1, d2] => { results := [.lit (.bool false)], args := [d1, d2] }
  | _ => none }
def GossipMergesWrongFalsely : Prop := gossipMergesRow.holds Try.pinned (OpenSpec.ofChange gossipMergesWrong)

/-- 'murmurationlaw12.GossipRests': WHATEVER THE INPUT: true; the input reads as it did. -/
def gossipRestsSpec : ChangeSpec := { name := "gossipRests", fn := fun _ => fun
  | [d] => { results := [.lit (.bool true)], args := [d] }
  | _ => none }
def gossipRestsRow : OpenClaim := { program := "ythmnjebmnocoiaa", sum := "819b83f4cc1215eeb8b3135633c12c72c9c18362cc58ad7d51b1beb39e5bce4f", func := "murmuration/murmurationlaw12.GossipRests", spec := "gossipRests", unfollowed := true, recurses := true, apart := false }
def GossipRestsSaid : Prop := gossipRestsRow.holds Try.pinned (OpenSpec.ofChange gossipRestsSpec)

/-- ITS FALSE NEIGHBOUR: 'it returns false'. Refute it at one input. -/
def gossipRestsWrong : ChangeSpec := { name := "gossipRests", fn := fun _ => fun
  | [d] => { results := [.lit (.bool false)], args := [d] }
  | _ => none }
def GossipRestsWrongFalsely : Prop := gossipRestsRow.holds Try.pinned (OpenSpec.ofChange gossipRestsWrong)

/- THE SECOND FORM. 'bulk': how many values and letters a reading holds, each counted each time it is reached (what is shared counts as often as it is met; a slice's spare places count too). A statement '..UptoSaid' is the law's where the arguments, and the package variables that the reading takes, are together of bulk at most 1048576: NARROWER than '..Said'. Prove '..Said' where nothing that the law and all that it calls make is longer than what came in: it says more and counts as full. Else prove '..UptoSaid'. A law counts once. -/
mutual
def uptoBulk {H : Type} : DataW H → Nat
  | .lit (.string bytes) => bytes.length + 1
  | .lit _ => 1
  | .nil => 1
  | .ptr d => uptoBulk d + 1
  | .slice elems spare => uptoBulkAll elems + uptoBulkAll spare + 1
  | .agg parts => uptoBulkAll parts + 1
  | .iface _ d => uptoBulk d + 1
  | .map entries => uptoBulkEntries entries + 1
  | .held _ => 1
def uptoBulkAll {H : Type} : List (DataW H) → Nat
  | [] => 0
  | d :: r => uptoBulk d + uptoBulkAll r
def uptoBulkEntries {H : Type} : List (Lit × DataW H) → Nat
  | [] => 0
  | x :: r => uptoBulkEntry x + uptoBulkEntries r
def uptoBulkEntry {H : Type} : Lit × DataW H → Nat
  | (.string bytes, d) => bytes.length + uptoBulk d + 1
  | (_, d) => uptoBulk d + 1
 end
def uptoSmall : (H : Type) → List (DataW H) → Bool := fun _ ds => decide (uptoBulkAll ds ≤ 1048576)
def OpenSpec.upto (s : _root_.Go.ChangeSpec) : _root_.Go.OpenSpec := { _root_.Go.OpenSpec.ofChange s with cond := some uptoSmall }

/-- 'murmurationlaw12.GossipMerges', WHERE WHAT IT READS IS OF BULK AT MOST 1048576: true; the input reads as it did. -/
def gossipMergesUptoRow : OpenClaim := { program := "ythmnjebmnocoiaa", sum := "819b83f4cc1215eeb8b3135633c12c72c9c18362cc58ad7d51b1beb39e5bce4f", func := "murmuration/murmurationlaw12.GossipMerges", spec := "gossipMerges", unfollowed := true, recurses := true, apart := false, narrowed := true }
def GossipMergesUptoSaid : Prop := gossipMergesUptoRow.holds Try.pinned (OpenSpec.upto gossipMergesSpec)

/-- 'murmurationlaw12.GossipRests', WHERE WHAT IT READS IS OF BULK AT MOST 1048576: true; the input reads as it did. -/
def gossipRestsUptoRow : OpenClaim := { program := "ythmnjebmnocoiaa", sum := "819b83f4cc1215eeb8b3135633c12c72c9c18362cc58ad7d51b1beb39e5bce4f", func := "murmuration/murmurationlaw12.GossipRests", spec := "gossipRests", unfollowed := true, recurses := true, apart := false, narrowed := true }
def GossipRestsUptoSaid : Prop := gossipRestsUptoRow.holds Try.pinned (OpenSpec.upto gossipRestsSpec)

end Rows
end Go.Proofs.Ythmnjebmnocoiaa
