/-
  No cell of these rows narrows 'for every input' (looked for: loops, veiled, ifaces, maps, wideKeys, modest, calm, conditions, laid).
  DERIVED. THE GIVEN ROWS OF THIS SEAT. 15 by the template 'for every input the law returns true; each argument reads behind the call as it read before'; 0 by the template 'total and deterministic' (their statements: YtclhimodopgeoaaGreatTotals.lean).
  GIVEN WITH THE SEED: the statements are not yours to turn. If you find one false, say at which input.
  Laid BY PROGRAM, IN A SANDBOX (cutbox-rows.mjs): the forced cells as the released guide's own fill.sh prints them over the translation a5bc7fb269efa836… (all of the seat's roots in one cut). By AI agents, Wed Nov 11 2026. No macro, syntax, notation, axiom, sorry.
-/
import Derived.Test.YtclhimodopgeoaaGreatChecked
import GoSem.Claim
import GoSem.ClaimJoined
import GoSem.ClaimMapViews
import Derived.JoinedTies
import Derived.KernelRfl
namespace Go.Proofs.YtclhimodopgeoaaGreat
/- THE CELL 'sum', in the pinned program and in every row, IS THE sha256 OF THE DUMP (.gsa) THAT YtclhimodopgeoaaGreatProg.lean LOADS. Nothing in Lean hashes anything: it is a label: what it is worth is what the hold of that sum in a sandbox is worth. -/
noncomputable def Tryz.pinned : Pinned := { name := "ytclhimodopgeoaagreat", sum := "a5bc7fb269efa8369e15283c5560f67ef0fd40e3fd552072cf4737b62aea370c", checked := Tryz.checked }
namespace Rows
def none {H : Type} : Left H := { results := [], args := [] }

/-- 'limelightlaw10.TopTells': WHATEVER THE INPUT: true; the input reads as it did. -/
def topTellsSpec : ChangeSpec := { name := "topTells", fn := fun _ => fun
  | [d] => { results := [.lit (.bool true)], args := [d] }
  | _ => none }
def topTellsRow : OpenClaim := { program := "ytclhimodopgeoaagreat", sum := "a5bc7fb269efa8369e15283c5560f67ef0fd40e3fd552072cf4737b62aea370c", func := "limelight/limelightlaw10.TopTells", spec := "topTells", unfollowed := true, recurses := true, apart := false }
def TopTellsSaid : Prop := topTellsRow.holds Tryz.pinned (OpenSpec.ofChange topTellsSpec)

/-- ITS FALSE NEIGHBOUR: 'it returns false'. Refute it at one input. -/
def topTellsWrong : ChangeSpec := { name := "topTells", fn := fun _ => fun
  | [d] => { results := [.lit (.bool false)], args := [d] }
  | _ => none }
def TopTellsWrongFalsely : Prop := topTellsRow.holds Tryz.pinned (OpenSpec.ofChange topTellsWrong)

/-- 'limelightlaw10.TopOpens': WHATEVER THE INPUT: true; the input reads as it did. -/
def topOpensSpec : ChangeSpec := { name := "topOpens", fn := fun _ => fun
  | [d1, d2, d3] => { results := [.lit (.bool true)], args := [d1, d2, d3] }
  | _ => none }
def topOpensRow : OpenClaim := { program := "ytclhimodopgeoaagreat", sum := "a5bc7fb269efa8369e15283c5560f67ef0fd40e3fd552072cf4737b62aea370c", func := "limelight/limelightlaw10.TopOpens", spec := "topOpens", unfollowed := true, recurses := true, apart := false }
def TopOpensSaid : Prop := topOpensRow.holds Tryz.pinned (OpenSpec.ofChange topOpensSpec)

/-- ITS FALSE NEIGHBOUR: 'it returns false'. Refute it at one input. -/
def topOpensWrong : ChangeSpec := { name := "topOpens", fn := fun _ => fun
  | [d1, d2, d3] => { results := [.lit (.bool false)], args := [d1, d2, d3] }
  | _ => none }
def TopOpensWrongFalsely : Prop := topOpensRow.holds Tryz.pinned (OpenSpec.ofChange topOpensWrong)

/-- 'limelightlaw10.TopStays': WHATEVER THE INPUT: true; the input reads as it did. -/
def topStaysSpec : ChangeSpec := { name := "topStays", fn := fun _ => fun
  | [d1, d2, d3] => { results := [.lit (.bool true)], args := [d1, d2, d3] }
  | _ => none }
def topStaysRow : OpenClaim := { program := "ytclhimodopgeoaagreat", sum := "a5bc7fb269efa8369e15283c5560f67ef0fd40e3fd552072cf4737b62aea370c", func := "limelight/limelightlaw10.TopStays", spec := "topStays", unfollowed := true, recurses := true, apart := false }
def TopStaysSaid : Prop := topStaysRow.holds Tryz.pinned (OpenSpec.ofChange topStaysSpec)

/-- ITS FALSE NEIGHBOUR: 'it returns false'. Refute it at one input. -/
def topStaysWrong : ChangeSpec := { name := "topStays", fn := fun _ => fun
  | [d1, d2, d3] => { results := [.lit (.bool false)], args := [d1, d2, d3] }
  | _ => none }
def TopStaysWrongFalsely : Prop := topStaysRow.holds Tryz.pinned (OpenSpec.ofChange topStaysWrong)

/-- 'limelightlaw10.TopFix': WHATEVER THE INPUT: true; the input reads as it did. -/
def topFixSpec : ChangeSpec := { name := "topFix", fn := fun _ => fun
  | [d] => { results := [.lit (.bool true)], args := [d] }
  | _ => none }
def topFixRow : OpenClaim := { program := "ytclhimodopgeoaagreat", sum := "a5bc7fb269efa8369e15283c5560f67ef0fd40e3fd552072cf4737b62aea370c", func := "limelight/limelightlaw10.TopFix", spec := "topFix", unfollowed := true, recurses := true, apart := false }
def TopFixSaid : Prop := topFixRow.holds Tryz.pinned (OpenSpec.ofChange topFixSpec)

/-- ITS FALSE NEIGHBOUR: 'it returns false'. Refute it at one input. -/
def topFixWrong : ChangeSpec := { name := "topFix", fn := fun _ => fun
  | [d] => { results := [.lit (.bool false)], args := [d] }
  | _ => none }
def TopFixWrongFalsely : Prop := topFixRow.holds Tryz.pinned (OpenSpec.ofChange topFixWrong)

/-- 'limelightlaw10.TopHighest': WHATEVER THE INPUT: true; the input reads as it did. -/
def topHighestSpec : ChangeSpec := { name := "topHighest", fn := fun _ => fun
  | [d] => { results := [.lit (.bool true)], args := [d] }
  | _ => none }
def topHighestRow : OpenClaim := { program := "ytclhimodopgeoaagreat", sum := "a5bc7fb269efa8369e15283c5560f67ef0fd40e3fd552072cf4737b62aea370c", func := "limelight/limelightlaw10.TopHighest", spec := "topHighest", unfollowed := true, recurses := true, apart := false }
def TopHighestSaid : Prop := topHighestRow.holds Tryz.pinned (OpenSpec.ofChange topHighestSpec)

/-- ITS FALSE NEIGHBOUR: 'it returns false'. Refute it at one input. -/
def topHighestWrong : ChangeSpec := { name := "topHighest", fn := fun _ => fun
  | [d] => { results := [.lit (.bool false)], args := [d] }
  | _ => none }
def TopHighestWrongFalsely : Prop := topHighestRow.holds Tryz.pinned (OpenSpec.ofChange topHighestWrong)

/-- 'limelightlaw10.TopOrder': WHATEVER THE INPUT: true; the input reads as it did. -/
def topOrderSpec : ChangeSpec := { name := "topOrder", fn := fun _ => fun
  | [d1, d2] => { results := [.lit (.bool true)], args := [d1, d2] }
  | _ => none }
def topOrderRow : OpenClaim := { program := "ytclhimodopgeoaagreat", sum := "a5bc7fb269efa8369e15283c5560f67ef0fd40e3fd552072cf4737b62aea370c", func := "limelight/limelightlaw10.TopOrder", spec := "topOrder", unfollowed := true, recurses := true, apart := false }
def TopOrderSaid : Prop := topOrderRow.holds Tryz.pinned (OpenSpec.ofChange topOrderSpec)

/-- ITS FALSE NEIGHBOUR: 'it returns false'. Refute it at one input. -/
def topOrderWrong : ChangeSpec := { name := "topOrder", fn := fun _ => fun
  | [d1, d2] => { results := [.lit (.bool false)], args := [d1, d2] }
  | _ => none }
def TopOrderWrongFalsely : Prop := topOrderRow.holds Tryz.pinned (OpenSpec.ofChange topOrderWrong)

/-- 'limelightlaw11.RenderTells': WHATEVER THE INPUT: true; the input reads as it did. -/
def renderTellsSpec : ChangeSpec := { name := "renderTells", fn := fun _ => fun
  | [d1, d2] => { results := [.lit (.bool true)], args := [d1, d2] }
  | _ => none }
def renderTellsRow : OpenClaim := { program := "ytclhimodopgeoaagreat", sum := "a5bc7fb269efa8369e15283c5560f67ef0fd40e3fd552072cf4737b62aea370c", func := "limelight/limelightlaw11.RenderTells", spec := "renderTells", unfollowed := true, recurses := true, apart := false }
def RenderTellsSaid : Prop := renderTellsRow.holds Tryz.pinned (OpenSpec.ofChange renderTellsSpec)

/-- ITS FALSE NEIGHBOUR: 'it returns false'. Refute it at one input. -/
def renderTellsWrong : ChangeSpec := { name := "renderTells", fn := fun _ => fun
  | [d1, d2] => { results := [.lit (.bool false)], args := [d1, d2] }
  | _ => none }
def RenderTellsWrongFalsely : Prop := renderTellsRow.holds Tryz.pinned (OpenSpec.ofChange renderTellsWrong)

/-- 'limelightlaw11.RenderBelow': WHATEVER THE INPUT: true; the input reads as it did. -/
def renderBelowSpec : ChangeSpec := { name := "renderBelow", fn := fun _ => fun
  | [d] => { results := [.lit (.bool true)], args := [d] }
  | _ => none }
def renderBelowRow : OpenClaim := { program := "ytclhimodopgeoaagreat", sum := "a5bc7fb269efa8369e15283c5560f67ef0fd40e3fd552072cf4737b62aea370c", func := "limelight/limelightlaw11.RenderBelow", spec := "renderBelow", unfollowed := true, recurses := true, apart := false }
def RenderBelowSaid : Prop := renderBelowRow.holds Tryz.pinned (OpenSpec.ofChange renderBelowSpec)

/-- ITS FALSE NEIGHBOUR: 'it returns false'. Refute it at one input. -/
def renderBelowWrong : ChangeSpec := { name := "renderBelow", fn := fun _ => fun
  | [d] => { results := [.lit (.bool false)], args := [d] }
  | _ => none }
def RenderBelowWrongFalsely : Prop := renderBelowRow.holds Tryz.pinned (OpenSpec.ofChange renderBelowWrong)

/-- 'limelightlaw11.RenderHides': WHATEVER THE INPUT: true; the input reads as it did. -/
def renderHidesSpec : ChangeSpec := { name := "renderHides", fn := fun _ => fun
  | [d1, d2] => { results := [.lit (.bool true)], args := [d1, d2] }
  | _ => none }
def renderHidesRow : OpenClaim := { program := "ytclhimodopgeoaagreat", sum := "a5bc7fb269efa8369e15283c5560f67ef0fd40e3fd552072cf4737b62aea370c", func := "limelight/limelightlaw11.RenderHides", spec := "renderHides", unfollowed := true, recurses := true, apart := false }
def RenderHidesSaid : Prop := renderHidesRow.holds Tryz.pinned (OpenSpec.ofChange renderHidesSpec)

/-- ITS FALSE NEIGHBOUR: 'it returns false'. Refute it at one input. -/
def renderHidesWrong : ChangeSpec := { name := "renderHides", fn := fun _ => fun
  | [d1, d2] => { results := [.lit (.bool false)], args := [d1, d2] }
  | _ => none }
def RenderHidesWrongFalsely : Prop := renderHidesRow.holds Tryz.pinned (OpenSpec.ofChange renderHidesWrong)

/-- 'limelightlaw11.RenderFirst': WHATEVER THE INPUT: true; the input reads as it did. -/
def renderFirstSpec : ChangeSpec := { name := "renderFirst", fn := fun _ => fun
  | [d] => { results := [.lit (.bool true)], args := [d] }
  | _ => none }
def renderFirstRow : OpenClaim := { program := "ytclhimodopgeoaagreat", sum := "a5bc7fb269efa8369e15283c5560f67ef0fd40e3fd552072cf4737b62aea370c", func := "limelight/limelightlaw11.RenderFirst", spec := "renderFirst", unfollowed := true, recurses := true, apart := false }
def RenderFirstSaid : Prop := renderFirstRow.holds Tryz.pinned (OpenSpec.ofChange renderFirstSpec)

/-- ITS FALSE NEIGHBOUR: 'it returns false'. Refute it at one input. -/
def renderFirstWrong : ChangeSpec := { name := "renderFirst", fn := fun _ => fun
  | [d] => { results := [.lit (.bool false)], args := [d] }
  | _ => none }
def RenderFirstWrongFalsely : Prop := renderFirstRow.holds Tryz.pinned (OpenSpec.ofChange renderFirstWrong)

/-- 'limelightlaw12.InertTells': WHATEVER THE INPUT: true; the input reads as it did. -/
def inertTellsSpec : ChangeSpec := { name := "inertTells", fn := fun _ => fun
  | [d1, d2] => { results := [.lit (.bool true)], args := [d1, d2] }
  | _ => none }
def inertTellsRow : OpenClaim := { program := "ytclhimodopgeoaagreat", sum := "a5bc7fb269efa8369e15283c5560f67ef0fd40e3fd552072cf4737b62aea370c", func := "limelight/limelightlaw12.InertTells", spec := "inertTells", unfollowed := true, recurses := true, apart := false }
def InertTellsSaid : Prop := inertTellsRow.holds Tryz.pinned (OpenSpec.ofChange inertTellsSpec)

/-- ITS FALSE NEIGHBOUR: 'it returns false'. Refute it at one input. -/
def inertTellsWrong : ChangeSpec := { name := "inertTells", fn := fun _ => fun
  | [d1, d2] => { results := [.lit (.bool false)], args := [d1, d2] }
  | _ => none }
def InertTellsWrongFalsely : Prop := inertTellsRow.holds Tryz.pinned (OpenSpec.ofChange inertTellsWrong)

/-- 'limelightlaw12.InertModal': WHATEVER THE INPUT: true; the input reads as it did. -/
def inertModalSpec : ChangeSpec := { name := "inertModal", fn := fun _ => fun
  | [d] => { results := [.lit (.bool true)], args := [d] }
  | _ => none }
def inertModalRow : OpenClaim := { program := "ytclhimodopgeoaagreat", sum := "a5bc7fb269efa8369e15283c5560f67ef0fd40e3fd552072cf4737b62aea370c", func := "limelight/limelightlaw12.InertModal", spec := "inertModal", unfollowed := true, recurses := true, apart := false }
def InertModalSaid : Prop := inertModalRow.holds Tryz.pinned (OpenSpec.ofChange inertModalSpec)

/-- ITS FALSE NEIGHBOUR: 'it returns false'. Refute it at one input. -/
def inertModalWrong : ChangeSpec := { name := "inertModal", fn := fun _ => fun
  | [d] => { results := [.lit (.bool false)], args := [d] }
  | _ => none }
def InertModalWrongFalsely : Prop := inertModalRow.holds Tryz.pinned (OpenSpec.ofChange inertModalWrong)

/-- 'limelightlaw12.InertNone': WHATEVER THE INPUT: true; the input reads as it did. -/
def inertNoneSpec : ChangeSpec := { name := "inertNone", fn := fun _ => fun
  | [d] => { results := [.lit (.bool true)], args := [d] }
  | _ => none }
def inertNoneRow : OpenClaim := { program := "ytclhimodopgeoaagreat", sum := "a5bc7fb269efa8369e15283c5560f67ef0fd40e3fd552072cf4737b62aea370c", func := "limelight/limelightlaw12.InertNone", spec := "inertNone", unfollowed := true, recurses := true, apart := false }
def InertNoneSaid : Prop := inertNoneRow.holds Tryz.pinned (OpenSpec.ofChange inertNoneSpec)

/-- ITS FALSE NEIGHBOUR: 'it returns false'. Refute it at one input. -/
def inertNoneWrong : ChangeSpec := { name := "inertNone", fn := fun _ => fun
  | [d] => { results := [.lit (.bool false)], args := [d] }
  | _ => none }
def InertNoneWrongFalsely : Prop := inertNoneRow.holds Tryz.pinned (OpenSpec.ofChange inertNoneWrong)

/-- 'limelightlaw12.InertBelow': WHATEVER THE INPUT: true; the input reads as it did. -/
def inertBelowSpec : ChangeSpec := { name := "inertBelow", fn := fun _ => fun
  | [d1, d2, d3] => { results := [.lit (.bool true)], args := [d1, d2, d3] }
  | _ => none }
def inertBelowRow : OpenClaim := { program := "ytclhimodopgeoaagreat", sum := "a5bc7fb269efa8369e15283c5560f67ef0fd40e3fd552072cf4737b62aea370c", func := "limelight/limelightlaw12.InertBelow", spec := "inertBelow", unfollowed := true, recurses := true, apart := false }
def InertBelowSaid : Prop := inertBelowRow.holds Tryz.pinned (OpenSpec.ofChange inertBelowSpec)

/-- ITS FALSE NEIGHBOUR: 'it returns false'. Refute it at one input. -/
def inertBelowWrong : ChangeSpec := { name := "inertBelow", fn := fun _ => fun
  | [d1, d2, d3] => { results := [.lit (.bool false)], args := [d1, d2, d3] }
  | _ => none }
def InertBelowWrongFalsely : Prop := inertBelowRow.holds Tryz.pinned (OpenSpec.ofChange inertBelowWrong)

/-- 'limelightlaw12.InertHighest': WHATEVER THE INPUT: true; the input reads as it did. -/
def inertHighestSpec : ChangeSpec := { name := "inertHighest", fn := fun _ => fun
  | [d1, d2] => { results := [.lit (.bool true)], args := [d1, d2] }
  | _ => none }
def inertHighestRow : OpenClaim := { program := "ytclhimodopgeoaagreat", sum := "a5bc7fb269efa8369e15283c5560f67ef0fd40e3fd552072cf4737b62aea370c", func := "limelight/limelightlaw12.InertHighest", spec := "inertHighest", unfollowed := true, recurses := true, apart := false }
def InertHighestSaid : Prop := inertHighestRow.holds Tryz.pinned (OpenSpec.ofChange inertHighestSpec)

/-- ITS FALSE NEIGHBOUR: 'it returns false'. Refute it at one input. -/
def inertHighestWrong : ChangeSpec := { name := "inertHighest", fn := fun _ => fun
  | [d1, d2] => { results := [.lit (.bool false)], args := [d1, d2] }
  | _ => none }
def InertHighestWrongFalsely : Prop := inertHighestRow.holds Tryz.pinned (OpenSpec.ofChange inertHighestWrong)

/- THE SECOND FORM. 'bulk': how many values and letters a reading holds, each counted each time it is reached (what is shared counts as often as it is met; a slice's spare places count too). A statement '..UptoSaid' is the law's where the arguments, and the package variables that the reading takes, are together of bulk at most 1048576: NARROWER than '..Said'. Prove '..Said' where nothing that the law and all that it calls make is longer than what came in: it says more and counts as full. Else prove '..UptoSaid'. A law counts once. -/
mutual
def uptoBulk {H : Type} : DataW H → Nat
  | .lit (.string bytes) => bytes.length + 1
  | .lit _ => 1
  | .nil => 1
  | .ptr d => uptoBulk d + 1
  | .slice elems spare => uptoBulkAll elems + uptoBulkAll spare + 1
  | .agg parts => uptoBulkAll parts + 1
  | .iface _ d => uptoBulk d + 1
  | .map entries => uptoBulkEntries entries + 1
  | .held _ => 1
def uptoBulkAll {H : Type} : List (DataW H) → Nat
  | [] => 0
  | d :: r => uptoBulk d + uptoBulkAll r
def uptoBulkEntries {H : Type} : List (Lit × DataW H) → Nat
  | [] => 0
  | x :: r => uptoBulkEntry x + uptoBulkEntries r
def uptoBulkEntry {H : Type} : Lit × DataW H → Nat
  | (.string bytes, d) => bytes.length + uptoBulk d + 1
  | (_, d) => uptoBulk d + 1
 end
def uptoSmall : (H : Type) → List (DataW H) → Bool := fun _ ds => decide (uptoBulkAll ds ≤ 1048576)
def OpenSpec.upto (s : _root_.Go.ChangeSpec) : _root_.Go.OpenSpec := { _root_.Go.OpenSpec.ofChange s with cond := some uptoSmall }

/-- 'limelightlaw10.TopTells', WHERE WHAT IT READS IS OF BULK AT MOST 1048576: true; the input reads as it did. -/
def topTellsUptoRow : OpenClaim := { program := "ytclhimodopgeoaagreat", sum := "a5bc7fb269efa8369e15283c5560f67ef0fd40e3fd552072cf4737b62aea370c", func := "limelight/limelightlaw10.TopTells", spec := "topTells", unfollowed := true, recurses := true, apart := false, narrowed := true }
def TopTellsUptoSaid : Prop := topTellsUptoRow.holds Tryz.pinned (OpenSpec.upto topTellsSpec)

/-- 'limelightlaw10.TopOpens', WHERE WHAT IT READS IS OF BULK AT MOST 1048576: true; the input reads as it did. -/
def topOpensUptoRow : OpenClaim := { program := "ytclhimodopgeoaagreat", sum := "a5bc7fb269efa8369e15283c5560f67ef0fd40e3fd552072cf4737b62aea370c", func := "limelight/limelightlaw10.TopOpens", spec := "topOpens", unfollowed := true, recurses := true, apart := false, narrowed := true }
def TopOpensUptoSaid : Prop := topOpensUptoRow.holds Tryz.pinned (OpenSpec.upto topOpensSpec)

/-- 'limelightlaw10.TopStays', WHERE WHAT IT READS IS OF BULK AT MOST 1048576: true; the input reads as it did. -/
def topStaysUptoRow : OpenClaim := { program := "ytclhimodopgeoaagreat", sum := "a5bc7fb269efa8369e15283c5560f67ef0fd40e3fd552072cf4737b62aea370c", func := "limelight/limelightlaw10.TopStays", spec := "topStays", unfollowed := true, recurses := true, apart := false, narrowed := true }
def TopStaysUptoSaid : Prop := topStaysUptoRow.holds Tryz.pinned (OpenSpec.upto topStaysSpec)

/-- 'limelightlaw10.TopFix', WHERE WHAT IT READS IS OF BULK AT MOST 1048576: true; the input reads as it did. -/
def topFixUptoRow : OpenClaim := { program := "ytclhimodopgeoaagreat", sum := "a5bc7fb269efa8369e15283c5560f67ef0fd40e3fd552072cf4737b62aea370c", func := "limelight/limelightlaw10.TopFix", spec := "topFix", unfollowed := true, recurses := true, apart := false, narrowed := true }
def TopFixUptoSaid : Prop := topFixUptoRow.holds Tryz.pinned (OpenSpec.upto topFixSpec)

/-- 'limelightlaw10.TopHighest', WHERE WHAT IT READS IS OF BULK AT MOST 1048576: true; the input reads as it did. -/
def topHighestUptoRow : OpenClaim := { program := "ytclhimodopgeoaagreat", sum := "a5bc7fb269efa8369e15283c5560f67ef0fd40e3fd552072cf4737b62aea370c", func := "limelight/limelightlaw10.TopHighest", spec := "topHighest", unfollowed := true, recurses := true, apart := false, narrowed := true }
def TopHighestUptoSaid : Prop := topHighestUptoRow.holds Tryz.pinned (OpenSpec.upto topHighestSpec)

/-- 'limelightlaw10.TopOrder', WHERE WHAT IT READS IS OF BULK AT MOST 1048576: true; the input reads as it did. -/
def topOrderUptoRow : OpenClaim := { program := "ytclhimodopgeoaagreat", sum := "a5bc7fb269efa8369e15283c5560f67ef0fd40e3fd552072cf4737b62aea370c", func := "limelight/limelightlaw10.TopOrder", spec := "topOrder", unfollowed := true, recurses := true, apart := false, narrowed := true }
def TopOrderUptoSaid : Prop := topOrderUptoRow.holds Tryz.pinned (OpenSpec.upto topOrderSpec)

/-- 'limelightlaw11.RenderTells', WHERE WHAT IT READS IS OF BULK AT MOST 1048576: true; the input reads as it did. -/
def renderTellsUptoRow : OpenClaim := { program := "ytclhimodopgeoaagreat", sum := "a5bc7fb269efa8369e15283c5560f67ef0fd40e3fd552072cf4737b62aea370c", func := "limelight/limelightlaw11.RenderTells", spec := "renderTells", unfollowed := true, recurses := true, apart := false, narrowed := true }
def RenderTellsUptoSaid : Prop := renderTellsUptoRow.holds Tryz.pinned (OpenSpec.upto renderTellsSpec)

/-- 'limelightlaw11.RenderBelow', WHERE WHAT IT READS IS OF BULK AT MOST 1048576: true; the input reads as it did. -/
def renderBelowUptoRow : OpenClaim := { program := "ytclhimodopgeoaagreat", sum := "a5bc7fb269efa8369e15283c5560f67ef0fd40e3fd552072cf4737b62aea370c", func := "limelight/limelightlaw11.RenderBelow", spec := "renderBelow", unfollowed := true, recurses := true, apart := false, narrowed := true }
def RenderBelowUptoSaid : Prop := renderBelowUptoRow.holds Tryz.pinned (OpenSpec.upto renderBelowSpec)

/-- 'limelightlaw11.RenderHides', WHERE WHAT IT READS IS OF BULK AT MOST 1048576: true; the input reads as it did. -/
def renderHidesUptoRow : OpenClaim := { program := "ytclhimodopgeoaagreat", sum := "a5bc7fb269efa8369e15283c5560f67ef0fd40e3fd552072cf4737b62aea370c", func := "limelight/limelightlaw11.RenderHides", spec := "renderHides", unfollowed := true, recurses := true, apart := false, narrowed := true }
def RenderHidesUptoSaid : Prop := renderHidesUptoRow.holds Tryz.pinned (OpenSpec.upto renderHidesSpec)

/-- 'limelightlaw11.RenderFirst', WHERE WHAT IT READS IS OF BULK AT MOST 1048576: true; the input reads as it did. -/
def renderFirstUptoRow : OpenClaim := { program := "ytclhimodopgeoaagreat", sum := "a5bc7fb269efa8369e15283c5560f67ef0fd40e3fd552072cf4737b62aea370c", func := "limelight/limelightlaw11.RenderFirst", spec := "renderFirst", unfollowed := true, recurses := true, apart := false, narrowed := true }
def RenderFirstUptoSaid : Prop := renderFirstUptoRow.holds Tryz.pinned (OpenSpec.upto renderFirstSpec)

/-- 'limelightlaw12.InertTells', WHERE WHAT IT READS IS OF BULK AT MOST 1048576: true; the input reads as it did. -/
def inertTellsUptoRow : OpenClaim := { program := "ytclhimodopgeoaagreat", sum := "a5bc7fb269efa8369e15283c5560f67ef0fd40e3fd552072cf4737b62aea370c", func := "limelight/limelightlaw12.InertTells", spec := "inertTells", unfollowed := true, recurses := true, apart := false, narrowed := true }
def InertTellsUptoSaid : Prop := inertTellsUptoRow.holds Tryz.pinned (OpenSpec.upto inertTellsSpec)

/-- 'limelightlaw12.InertModal', WHERE WHAT IT READS IS OF BULK AT MOST 1048576: true; the input reads as it did. -/
def inertModalUptoRow : OpenClaim := { program := "ytclhimodopgeoaagreat", sum := "a5bc7fb269efa8369e15283c5560f67ef0fd40e3fd552072cf4737b62aea370c", func := "limelight/limelightlaw12.InertModal", spec := "inertModal", unfollowed := true, recurses := true, apart := false, narrowed := true }
def InertModalUptoSaid : Prop := inertModalUptoRow.holds Tryz.pinned (OpenSpec.upto inertModalSpec)

/-- 'limelightlaw12.InertNone', WHERE WHAT IT READS IS OF BULK AT MOST 1048576: true; the input reads as it did. -/
def inertNoneUptoRow : OpenClaim := { program := "ytclhimodopgeoaagreat", sum := "a5bc7fb269efa8369e15283c5560f67ef0fd40e3fd552072cf4737b62aea370c", func := "limelight/limelightlaw12.InertNone", spec := "inertNone", unfollowed := true, recurses := true, apart := false, narrowed := true }
def InertNoneUptoSaid : Prop := inertNoneUptoRow.holds Tryz.pinned (OpenSpec.upto inertNoneSpec)

/-- 'limelightlaw12.InertBelow', WHERE WHAT IT READS IS OF BULK AT MOST 1048576: true; the input reads as it did. -/
def inertBelowUptoRow : OpenClaim := { program := "ytclhimodopgeoaagreat", sum := "a5bc7fb269efa8369e15283c5560f67ef0fd40e3fd552072cf4737b62aea370c", func := "limelight/limelightlaw12.InertBelow", spec := "inertBelow", unfollowed := true, recurses := true, apart := false, narrowed := true }
def InertBelowUptoSaid : Prop := inertBelowUptoRow.holds Tryz.pinned (OpenSpec.upto inertBelowSpec)

/-- 'limelightlaw12.InertHighest', WHERE WHAT IT READS IS OF BULK AT MOST 1048576: true; the input reads as it did. -/
def inertHighestUptoRow : OpenClaim := { program := "ytclhimodopgeoaagreat", sum := "a5bc7fb269efa8369e15283c5560f67ef0fd40e3fd552072cf4737b62aea370c", func := "limelight/limelightlaw12.InertHighest", spec := "inertHighest", unfollowed := true, recurses := true, apart := false, narrowed := true }
def InertHighestUptoSaid : Prop := inertHighestUptoRow.holds Tryz.pinned (OpenSpec.upto inertHighestSpec)

end Rows
end Go.Proofs.YtclhimodopgeoaaGreat
