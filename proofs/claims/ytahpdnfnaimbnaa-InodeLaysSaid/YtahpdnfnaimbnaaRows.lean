/-
  No cell of these rows narrows 'for every input' (looked for: loops, veiled, ifaces, maps, wideKeys, modest, calm, conditions, laid).
  DERIVED. THE GIVEN ROWS OF THIS SEAT. 7 by the template 'for every input the law returns true; each argument reads behind the call as it read before'; 0 by the template 'total and deterministic' (their statements: YtahpdnfnaimbnaaTotals.lean).
  GIVEN WITH THE SEED: the statements are not yours to turn. If you find one false, say at which input.
  Laid BY PROGRAM, IN A SANDBOX (cutbox-rows.mjs): the forced cells as the released guide's own fill.sh prints them over the translation aadff2dcda7e2faa… (all of the seat's roots in one cut). By AI agents, Wed Nov 11 2026. No macro, syntax, notation, axiom, sorry.
-/
import Derived.Test.YtahpdnfnaimbnaaChecked
import GoSem.Claim
import GoSem.ClaimJoined
import GoSem.ClaimMapViews
import Derived.JoinedTies
import Derived.KernelRfl
namespace Go.Proofs.Ytahpdnfnaimbnaa
/- THE CELL 'sum', in the pinned program and in every row, IS THE sha256 OF THE DUMP (.gsa) THAT YtahpdnfnaimbnaaProg.lean LOADS. Nothing in Lean hashes anything: it is a label: what it is worth is what the hold of that sum in a sandbox is worth. -/
noncomputable def Try.pinned : Pinned := { name := "ytahpdnfnaimbnaa", sum := "aadff2dcda7e2faa09a061f8602617c0effd5a26a0eeae9c8ac07211f003cc03", checked := Try.checked }
namespace Rows
def none {H : Type} : Left H := { results := [], args := [] }

/-- 'moatlaw11.InodeLays': WHATEVER THE INPUT: true; the input reads as it did. -/
def inodeLaysSpec : ChangeSpec := { name := "inodeLays", fn := fun _ => fun
  | [d] => { results := [.lit (.bool true)], args := [d] }
  | _ => none }
def inodeLaysRow : OpenClaim := { program := "ytahpdnfnaimbnaa", sum := "aadff2dcda7e2faa09a061f8602617c0effd5a26a0eeae9c8ac07211f003cc03", func := "moat/moatlaw11.InodeLays", spec := "inodeLays", apart := false }
def InodeLaysSaid : Prop := inodeLaysRow.holds Try.pinned (OpenSpec.ofChange inodeLaysSpec)

/-- ITS FALSE NEIGHBOUR: 'it returns false'. Refute it at one input. -/
def inodeLaysWrong : ChangeSpec := { name := "inodeLays", fn := fun _ => fun
  | [d] => { results := [.lit (.bool false)], args := [d] }
  | _ => none }
def InodeLaysWrongFalsely : Prop := inodeLaysRow.holds Try.pinned (OpenSpec.ofChange inodeLaysWrong)

/-- 'moatlaw11.InodeTakes': WHATEVER THE INPUT: true; the input reads as it did. -/
def inodeTakesSpec : ChangeSpec := { name := "inodeTakes", fn := fun _ => fun
  | [d] => { results := [.lit (.bool true)], args := [d] }
  | _ => none }
def inodeTakesRow : OpenClaim := { program := "ytahpdnfnaimbnaa", sum := "aadff2dcda7e2faa09a061f8602617c0effd5a26a0eeae9c8ac07211f003cc03", func := "moat/moatlaw11.InodeTakes", spec := "inodeTakes", apart := false }
def InodeTakesSaid : Prop := inodeTakesRow.holds Try.pinned (OpenSpec.ofChange inodeTakesSpec)

/-- ITS FALSE NEIGHBOUR: 'it returns false'. Refute it at one input. -/
def inodeTakesWrong : ChangeSpec := { name := "inodeTakes", fn := fun _ => fun
  | [d] => { results := [.lit (.bool false)], args := [d] }
  | _ => none }
def InodeTakesWrongFalsely : Prop := inodeTakesRow.holds Try.pinned (OpenSpec.ofChange inodeTakesWrong)

/-- 'moatlaw11.InodeWays': WHATEVER THE INPUT: true; the input reads as it did. -/
def inodeWaysSpec : ChangeSpec := { name := "inodeWays", fn := fun _ => fun
  | [d1, d2] => { results := [.lit (.bool true)], args := [d1, d2] }
  | _ => none }
def inodeWaysRow : OpenClaim := { program := "ytahpdnfnaimbnaa", sum := "aadff2dcda7e2faa09a061f8602617c0effd5a26a0eeae9c8ac07211f003cc03", func := "moat/moatlaw11.InodeWays", spec := "inodeWays", apart := false }
def InodeWaysSaid : Prop := inodeWaysRow.holds Try.pinned (OpenSpec.ofChange inodeWaysSpec)

/-- ITS FALSE NEIGHBOUR: 'it returns false'. Refute it at one input. -/
def inodeWaysWrong : ChangeSpec := { name := "inodeWays", fn := fun _ => fun
  | [d1, d2] => { results := [.lit (.bool false)], args := [d1, d2] }
  | _ => none }
def InodeWaysWrongFalsely : Prop := inodeWaysRow.holds Try.pinned (OpenSpec.ofChange inodeWaysWrong)

/-- 'moatlaw11.InodeBack': WHATEVER THE INPUT: true; the input reads as it did. -/
def inodeBackSpec : ChangeSpec := { name := "inodeBack", fn := fun _ => fun
  | [d1, d2] => { results := [.lit (.bool true)], args := [d1, d2] }
  | _ => none }
def inodeBackRow : OpenClaim := { program := "ytahpdnfnaimbnaa", sum := "aadff2dcda7e2faa09a061f8602617c0effd5a26a0eeae9c8ac07211f003cc03", func := "moat/moatlaw11.InodeBack", spec := "inodeBack", apart := false }
def InodeBackSaid : Prop := inodeBackRow.holds Try.pinned (OpenSpec.ofChange inodeBackSpec)

/-- ITS FALSE NEIGHBOUR: 'it returns false'. Refute it at one input. -/
def inodeBackWrong : ChangeSpec := { name := "inodeBack", fn := fun _ => fun
  | [d1, d2] => { results := [.lit (.bool false)], args := [d1, d2] }
  | _ => none }
def InodeBackWrongFalsely : Prop := inodeBackRow.holds Try.pinned (OpenSpec.ofChange inodeBackWrong)

/-- 'moatlaw11.InodeBlocks': WHATEVER THE INPUT: true; the input reads as it did. -/
def inodeBlocksSpec : ChangeSpec := { name := "inodeBlocks", fn := fun _ => fun
  | [d1, d2] => { results := [.lit (.bool true)], args := [d1, d2] }
  | _ => none }
def inodeBlocksRow : OpenClaim := { program := "ytahpdnfnaimbnaa", sum := "aadff2dcda7e2faa09a061f8602617c0effd5a26a0eeae9c8ac07211f003cc03", func := "moat/moatlaw11.InodeBlocks", spec := "inodeBlocks", apart := false }
def InodeBlocksSaid : Prop := inodeBlocksRow.holds Try.pinned (OpenSpec.ofChange inodeBlocksSpec)

/-- ITS FALSE NEIGHBOUR: 'it returns false'. Refute it at one input. -/
def inodeBlocksWrong : ChangeSpec := { name := "inodeBlocks", fn := fun _ => fun
  | [d1, d2] => { results := [.lit (.bool false)], args := [d1, d2] }
  | _ => none }
def InodeBlocksWrongFalsely : Prop := inodeBlocksRow.holds Try.pinned (OpenSpec.ofChange inodeBlocksWrong)

/-- 'moatlaw11.InodeApart': WHATEVER THE INPUT: true; the input reads as it did. -/
def inodeApartSpec : ChangeSpec := { name := "inodeApart", fn := fun _ => fun
  | [d1, d2] => { results := [.lit (.bool true)], args := [d1, d2] }
  | _ => none }
def inodeApartRow : OpenClaim := { program := "ytahpdnfnaimbnaa", sum := "aadff2dcda7e2faa09a061f8602617c0effd5a26a0eeae9c8ac07211f003cc03", func := "moat/moatlaw11.InodeApart", spec := "inodeApart", apart := false }
def InodeApartSaid : Prop := inodeApartRow.holds Try.pinned (OpenSpec.ofChange inodeApartSpec)

/-- ITS FALSE NEIGHBOUR: 'it returns false'. Refute it at one input. -/
def inodeApartWrong : ChangeSpec := { name := "inodeApart", fn := fun _ => fun
  | [d1, d2] => { results := [.lit (.bool false)], args := [d1, d2] }
  | _ => none }
def InodeApartWrongFalsely : Prop := inodeApartRow.holds Try.pinned (OpenSpec.ofChange inodeApartWrong)

/-- 'moatlaw11.InodeMore': WHATEVER THE INPUT: true; the input reads as it did. -/
def inodeMoreSpec : ChangeSpec := { name := "inodeMore", fn := fun _ => fun
  | [d1, d2] => { results := [.lit (.bool true)], args := [d1, d2] }
  | _ => none }
def inodeMoreRow : OpenClaim := { program := "ytahpdnfnaimbnaa", sum := "aadff2dcda7e2faa09a061f8602617c0effd5a26a0eeae9c8ac07211f003cc03", func := "moat/moatlaw11.InodeMore", spec := "inodeMore", apart := false }
def InodeMoreSaid : Prop := inodeMoreRow.holds Try.pinned (OpenSpec.ofChange inodeMoreSpec)

/-- ITS FALSE NEIGHBOUR: 'it returns false'. Refute it at one input. -/
def inodeMoreWrong : ChangeSpec := { name := "inodeMore", fn := fun _ => fun
  | [d1, d2] => { results := [.lit (.bool false)], args := [d1, d2] }
  | _ => none }
def InodeMoreWrongFalsely : Prop := inodeMoreRow.holds Try.pinned (OpenSpec.ofChange inodeMoreWrong)

/- THE SECOND FORM. 'bulk': how many values and letters a reading holds, each counted each time it is reached (what is shared counts as often as it is met; a slice's spare places count too). A statement '..UptoSaid' is the law's where the arguments, and the package variables that the reading takes, are together of bulk at most 1048576: NARROWER than '..Said'. Prove '..Said' where nothing that the law and all that it calls make is longer than what came in: it says more and counts as full. Else prove '..UptoSaid'. A law counts once. -/
mutual
def uptoBulk {H : Type} : DataW H → Nat
  | .lit (.string bytes) => bytes.length + 1
  | .lit _ => 1
  | .nil => 1
  | .ptr d => uptoBulk d + 1
  | .slice elems spare => uptoBulkAll elems + uptoBulkAll spare + 1
  | .agg parts => uptoBulkAll parts + 1
  | .iface _ d => uptoBulk d + 1
  | .map entries => uptoBulkEntries entries + 1
  | .held _ => 1
def uptoBulkAll {H : Type} : List (DataW H) → Nat
  | [] => 0
  | d :: r => uptoBulk d + uptoBulkAll r
def uptoBulkEntries {H : Type} : List (Lit × DataW H) → Nat
  | [] => 0
  | x :: r => uptoBulkEntry x + uptoBulkEntries r
def uptoBulkEntry {H : Type} : Lit × DataW H → Nat
  | (.string bytes, d) => bytes.length + uptoBulk d + 1
  | (_, d) => uptoBulk d + 1
 end
def uptoSmall : (H : Type) → List (DataW H) → Bool := fun _ ds => decide (uptoBulkAll ds ≤ 1048576)
def OpenSpec.upto (s : _root_.Go.ChangeSpec) : _root_.Go.OpenSpec := { _root_.Go.OpenSpec.ofChange s with cond := some uptoSmall }

/-- 'moatlaw11.InodeLays', WHERE WHAT IT READS IS OF BULK AT MOST 1048576: true; the input reads as it did. -/
def inodeLaysUptoRow : OpenClaim := { program := "ytahpdnfnaimbnaa", sum := "aadff2dcda7e2faa09a061f8602617c0effd5a26a0eeae9c8ac07211f003cc03", func := "moat/moatlaw11.InodeLays", spec := "inodeLays", apart := false, narrowed := true }
def InodeLaysUptoSaid : Prop := inodeLaysUptoRow.holds Try.pinned (OpenSpec.upto inodeLaysSpec)

/-- 'moatlaw11.InodeTakes', WHERE WHAT IT READS IS OF BULK AT MOST 1048576: true; the input reads as it did. -/
def inodeTakesUptoRow : OpenClaim := { program := "ytahpdnfnaimbnaa", sum := "aadff2dcda7e2faa09a061f8602617c0effd5a26a0eeae9c8ac07211f003cc03", func := "moat/moatlaw11.InodeTakes", spec := "inodeTakes", apart := false, narrowed := true }
def InodeTakesUptoSaid : Prop := inodeTakesUptoRow.holds Try.pinned (OpenSpec.upto inodeTakesSpec)

/-- 'moatlaw11.InodeWays', WHERE WHAT IT READS IS OF BULK AT MOST 1048576: true; the input reads as it did. -/
def inodeWaysUptoRow : OpenClaim := { program := "ytahpdnfnaimbnaa", sum := "aadff2dcda7e2faa09a061f8602617c0effd5a26a0eeae9c8ac07211f003cc03", func := "moat/moatlaw11.InodeWays", spec := "inodeWays", apart := false, narrowed := true }
def InodeWaysUptoSaid : Prop := inodeWaysUptoRow.holds Try.pinned (OpenSpec.upto inodeWaysSpec)

/-- 'moatlaw11.InodeBack', WHERE WHAT IT READS IS OF BULK AT MOST 1048576: true; the input reads as it did. -/
def inodeBackUptoRow : OpenClaim := { program := "ytahpdnfnaimbnaa", sum := "aadff2dcda7e2faa09a061f8602617c0effd5a26a0eeae9c8ac07211f003cc03", func := "moat/moatlaw11.InodeBack", spec := "inodeBack", apart := false, narrowed := true }
def InodeBackUptoSaid : Prop := inodeBackUptoRow.holds Try.pinned (OpenSpec.upto inodeBackSpec)

/-- 'moatlaw11.InodeBlocks', WHERE WHAT IT READS IS OF BULK AT MOST 1048576: true; the input reads as it did. -/
def inodeBlocksUptoRow : OpenClaim := { program := "ytahpdnfnaimbnaa", sum := "aadff2dcda7e2faa09a061f8602617c0effd5a26a0eeae9c8ac07211f003cc03", func := "moat/moatlaw11.InodeBlocks", spec := "inodeBlocks", apart := false, narrowed := true }
def InodeBlocksUptoSaid : Prop := inodeBlocksUptoRow.holds Try.pinned (OpenSpec.upto inodeBlocksSpec)

/-- 'moatlaw11.InodeApart', WHERE WHAT IT READS IS OF BULK AT MOST 1048576: true; the input reads as it did. -/
def inodeApartUptoRow : OpenClaim := { program := "ytahpdnfnaimbnaa", sum := "aadff2dcda7e2faa09a061f8602617c0effd5a26a0eeae9c8ac07211f003cc03", func := "moat/moatlaw11.InodeApart", spec := "inodeApart", apart := false, narrowed := true }
def InodeApartUptoSaid : Prop := inodeApartUptoRow.holds Try.pinned (OpenSpec.upto inodeApartSpec)

/-- 'moatlaw11.InodeMore', WHERE WHAT IT READS IS OF BULK AT MOST 1048576: true; the input reads as it did. -/
def inodeMoreUptoRow : OpenClaim := { program := "ytahpdnfnaimbnaa", sum := "aadff2dcda7e2faa09a061f8602617c0effd5a26a0eeae9c8ac07211f003cc03", func := "moat/moatlaw11.InodeMore", spec := "inodeMore", apart := false, narrowed := true }
def InodeMoreUptoSaid : Prop := inodeMoreUptoRow.holds Try.pinned (OpenSpec.upto inodeMoreSpec)

end Rows
end Go.Proofs.Ytahpdnfnaimbnaa
