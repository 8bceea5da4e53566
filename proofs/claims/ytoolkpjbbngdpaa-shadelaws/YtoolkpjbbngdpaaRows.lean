/-
  No cell of these rows narrows 'for every input' (looked for: loops, veiled, ifaces, maps, wideKeys, modest, calm, conditions, laid).
  DERIVED. THE GIVEN ROWS OF THIS SEAT. 16 by the template 'for every input the law returns true; each argument reads behind the call as it read before'; 0 by the template 'total and deterministic' (their statements: YtoolkpjbbngdpaaTotals.lean).
  GIVEN WITH THE SEED: the statements are not yours to turn. If you find one false, say at which input.
  Laid BY PROGRAM, IN A SANDBOX (cutbox-rows.mjs): the forced cells as the released guide's own fill.sh prints them over the translation ccc7216da22b5445… (all of the seat's roots in one cut). By AI agents, Wed Nov 11 2026. No macro, syntax, notation, axiom, sorry.
-/
import Derived.Test.YtoolkpjbbngdpaaChecked
import GoSem.Claim
import GoSem.ClaimJoined
import GoSem.ClaimMapViews
import Derived.JoinedTies
import Derived.KernelRfl
namespace Go.Proofs.Ytoolkpjbbngdpaa
/- THE CELL 'sum', in the pinned program and in every row, IS THE sha256 OF THE DUMP (.gsa) THAT YtoolkpjbbngdpaaProg.lean LOADS. Nothing in Lean hashes anything: it is a label: what it is worth is what the hold of that sum in a sandbox is worth. -/
noncomputable def Try.pinned : Pinned := { name := "ytoolkpjbbngdpaa", sum := "ccc7216da22b54456acab147825eba0cc966a21ac9ae59a113181c223c4b73e7", checked := Try.checked }
namespace Rows
def none {H : Type} : Left H := { results := [], args := [] }

/-- 'limelightlaw01.TreeMakes': WHATEVER THE INPUT: true; the input reads as it did. -/
def treeMakesSpec : ChangeSpec := { name := "treeMakes", fn := fun _ => fun
  | [d1, d2, d3] => { results := [.lit (.bool true)], args := [d1, d2, d3] }
  | _ => none }
def treeMakesRow : OpenClaim := { program := "ytoolkpjbbngdpaa", sum := "ccc7216da22b54456acab147825eba0cc966a21ac9ae59a113181c223c4b73e7", func := "limelight/limelightlaw01.TreeMakes", spec := "treeMakes", inPlace := ["slices.overlaps[int]"], unfollowed := true, recurses := true, apart := false }
def TreeMakesSaid : Prop := treeMakesRow.holds Try.pinned (OpenSpec.ofChange treeMakesSpec)

/-- ITS FALSE NEIGHBOUR: 'it returns false'. Refute it at one input. -/
def treeMakesWrong : ChangeSpec := { name := "treeMakes", fn := fun _ => fun
  | [d1, d2, d3] => { results := [.lit (.bool false)], args := [d1, d2, d3] }
  | _ => none }
def TreeMakesWrongFalsely : Prop := treeMakesRow.holds Try.pinned (OpenSpec.ofChange treeMakesWrong)

/-- 'limelightlaw01.TreeMoves': WHATEVER THE INPUT: true; the input reads as it did. -/
def treeMovesSpec : ChangeSpec := { name := "treeMoves", fn := fun _ => fun
  | [d1, d2] => { results := [.lit (.bool true)], args := [d1, d2] }
  | _ => none }
def treeMovesRow : OpenClaim := { program := "ytoolkpjbbngdpaa", sum := "ccc7216da22b54456acab147825eba0cc966a21ac9ae59a113181c223c4b73e7", func := "limelight/limelightlaw01.TreeMoves", spec := "treeMoves", inPlace := ["slices.overlaps[int]"], unfollowed := true, recurses := true, apart := false }
def TreeMovesSaid : Prop := treeMovesRow.holds Try.pinned (OpenSpec.ofChange treeMovesSpec)

/-- ITS FALSE NEIGHBOUR: 'it returns false'. Refute it at one input. -/
def treeMovesWrong : ChangeSpec := { name := "treeMoves", fn := fun _ => fun
  | [d1, d2] => { results := [.lit (.bool false)], args := [d1, d2] }
  | _ => none }
def TreeMovesWrongFalsely : Prop := treeMovesRow.holds Try.pinned (OpenSpec.ofChange treeMovesWrong)

/-- 'limelightlaw01.TreeStays': WHATEVER THE INPUT: true; the input reads as it did. -/
def treeStaysSpec : ChangeSpec := { name := "treeStays", fn := fun _ => fun
  | [d] => { results := [.lit (.bool true)], args := [d] }
  | _ => none }
def treeStaysRow : OpenClaim := { program := "ytoolkpjbbngdpaa", sum := "ccc7216da22b54456acab147825eba0cc966a21ac9ae59a113181c223c4b73e7", func := "limelight/limelightlaw01.TreeStays", spec := "treeStays", inPlace := ["slices.overlaps[int]"], unfollowed := true, recurses := true, apart := false }
def TreeStaysSaid : Prop := treeStaysRow.holds Try.pinned (OpenSpec.ofChange treeStaysSpec)

/-- ITS FALSE NEIGHBOUR: 'it returns false'. Refute it at one input. -/
def treeStaysWrong : ChangeSpec := { name := "treeStays", fn := fun _ => fun
  | [d] => { results := [.lit (.bool false)], args := [d] }
  | _ => none }
def TreeStaysWrongFalsely : Prop := treeStaysRow.holds Try.pinned (OpenSpec.ofChange treeStaysWrong)

/-- 'limelightlaw01.TreeBack': WHATEVER THE INPUT: true; the input reads as it did. -/
def treeBackSpec : ChangeSpec := { name := "treeBack", fn := fun _ => fun
  | [d1, d2] => { results := [.lit (.bool true)], args := [d1, d2] }
  | _ => none }
def treeBackRow : OpenClaim := { program := "ytoolkpjbbngdpaa", sum := "ccc7216da22b54456acab147825eba0cc966a21ac9ae59a113181c223c4b73e7", func := "limelight/limelightlaw01.TreeBack", spec := "treeBack", inPlace := ["slices.overlaps[int]"], unfollowed := true, recurses := true, apart := false }
def TreeBackSaid : Prop := treeBackRow.holds Try.pinned (OpenSpec.ofChange treeBackSpec)

/-- ITS FALSE NEIGHBOUR: 'it returns false'. Refute it at one input. -/
def treeBackWrong : ChangeSpec := { name := "treeBack", fn := fun _ => fun
  | [d1, d2] => { results := [.lit (.bool false)], args := [d1, d2] }
  | _ => none }
def TreeBackWrongFalsely : Prop := treeBackRow.holds Try.pinned (OpenSpec.ofChange treeBackWrong)

/-- 'limelightlaw01.TreeOnce': WHATEVER THE INPUT: true; the input reads as it did. -/
def treeOnceSpec : ChangeSpec := { name := "treeOnce", fn := fun _ => fun
  | [d] => { results := [.lit (.bool true)], args := [d] }
  | _ => none }
def treeOnceRow : OpenClaim := { program := "ytoolkpjbbngdpaa", sum := "ccc7216da22b54456acab147825eba0cc966a21ac9ae59a113181c223c4b73e7", func := "limelight/limelightlaw01.TreeOnce", spec := "treeOnce", inPlace := ["slices.overlaps[int]"], unfollowed := true, recurses := true, apart := false }
def TreeOnceSaid : Prop := treeOnceRow.holds Try.pinned (OpenSpec.ofChange treeOnceSpec)

/-- ITS FALSE NEIGHBOUR: 'it returns false'. Refute it at one input. -/
def treeOnceWrong : ChangeSpec := { name := "treeOnce", fn := fun _ => fun
  | [d] => { results := [.lit (.bool false)], args := [d] }
  | _ => none }
def TreeOnceWrongFalsely : Prop := treeOnceRow.holds Try.pinned (OpenSpec.ofChange treeOnceWrong)

/-- 'limelightlaw01.TreeKeeps': WHATEVER THE INPUT: true; the input reads as it did. -/
def treeKeepsSpec : ChangeSpec := { name := "treeKeeps", fn := fun _ => fun
  | [d1, d2] => { results := [.lit (.bool true)], args := [d1, d2] }
  | _ => none }
def treeKeepsRow : OpenClaim := { program := "ytoolkpjbbngdpaa", sum := "ccc7216da22b54456acab147825eba0cc966a21ac9ae59a113181c223c4b73e7", func := "limelight/limelightlaw01.TreeKeeps", spec := "treeKeeps", inPlace := ["slices.overlaps[int]"], unfollowed := true, recurses := true, apart := false }
def TreeKeepsSaid : Prop := treeKeepsRow.holds Try.pinned (OpenSpec.ofChange treeKeepsSpec)

/-- ITS FALSE NEIGHBOUR: 'it returns false'. Refute it at one input. -/
def treeKeepsWrong : ChangeSpec := { name := "treeKeeps", fn := fun _ => fun
  | [d1, d2] => { results := [.lit (.bool false)], args := [d1, d2] }
  | _ => none }
def TreeKeepsWrongFalsely : Prop := treeKeepsRow.holds Try.pinned (OpenSpec.ofChange treeKeepsWrong)

/-- 'limelightlaw03.OrderTells': WHATEVER THE INPUT: true; the input reads as it did. -/
def orderTellsSpec : ChangeSpec := { name := "orderTells", fn := fun _ => fun
  | [d1, d2, d3] => { results := [.lit (.bool true)], args := [d1, d2, d3] }
  | _ => none }
def orderTellsRow : OpenClaim := { program := "ytoolkpjbbngdpaa", sum := "ccc7216da22b54456acab147825eba0cc966a21ac9ae59a113181c223c4b73e7", func := "limelight/limelightlaw03.OrderTells", spec := "orderTells", unfollowed := true, recurses := true, apart := false }
def OrderTellsSaid : Prop := orderTellsRow.holds Try.pinned (OpenSpec.ofChange orderTellsSpec)

/-- ITS FALSE NEIGHBOUR: 'it returns false'. Refute it at one input. -/
def orderTellsWrong : ChangeSpec := { name := "orderTells", fn := fun _ => fun
  | [d1, d2, d3] => { results := [.lit (.bool false)], args := [d1, d2, d3] }
  | _ => none }
def OrderTellsWrongFalsely : Prop := orderTellsRow.holds Try.pinned (OpenSpec.ofChange orderTellsWrong)

/-- 'limelightlaw03.OrderLaws': WHATEVER THE INPUT: true; the input reads as it did. -/
def orderLawsSpec : ChangeSpec := { name := "orderLaws", fn := fun _ => fun
  | [d1, d2] => { results := [.lit (.bool true)], args := [d1, d2] }
  | _ => none }
def orderLawsRow : OpenClaim := { program := "ytoolkpjbbngdpaa", sum := "ccc7216da22b54456acab147825eba0cc966a21ac9ae59a113181c223c4b73e7", func := "limelight/limelightlaw03.OrderLaws", spec := "orderLaws", unfollowed := true, recurses := true, apart := false }
def OrderLawsSaid : Prop := orderLawsRow.holds Try.pinned (OpenSpec.ofChange orderLawsSpec)

/-- ITS FALSE NEIGHBOUR: 'it returns false'. Refute it at one input. -/
def orderLawsWrong : ChangeSpec := { name := "orderLaws", fn := fun _ => fun
  | [d1, d2] => { results := [.lit (.bool false)], args := [d1, d2] }
  | _ => none }
def OrderLawsWrongFalsely : Prop := orderLawsRow.holds Try.pinned (OpenSpec.ofChange orderLawsWrong)

/-- 'limelightlaw03.OrderList': WHATEVER THE INPUT: true; the input reads as it did. -/
def orderListSpec : ChangeSpec := { name := "orderList", fn := fun _ => fun
  | [d1, d2] => { results := [.lit (.bool true)], args := [d1, d2] }
  | _ => none }
def orderListRow : OpenClaim := { program := "ytoolkpjbbngdpaa", sum := "ccc7216da22b54456acab147825eba0cc966a21ac9ae59a113181c223c4b73e7", func := "limelight/limelightlaw03.OrderList", spec := "orderList", unfollowed := true, recurses := true, apart := false }
def OrderListSaid : Prop := orderListRow.holds Try.pinned (OpenSpec.ofChange orderListSpec)

/-- ITS FALSE NEIGHBOUR: 'it returns false'. Refute it at one input. -/
def orderListWrong : ChangeSpec := { name := "orderList", fn := fun _ => fun
  | [d1, d2] => { results := [.lit (.bool false)], args := [d1, d2] }
  | _ => none }
def OrderListWrongFalsely : Prop := orderListRow.holds Try.pinned (OpenSpec.ofChange orderListWrong)

/-- 'limelightlaw03.OrderUp': WHATEVER THE INPUT: true; the input reads as it did. -/
def orderUpSpec : ChangeSpec := { name := "orderUp", fn := fun _ => fun
  | [d1, d2] => { results := [.lit (.bool true)], args := [d1, d2] }
  | _ => none }
def orderUpRow : OpenClaim := { program := "ytoolkpjbbngdpaa", sum := "ccc7216da22b54456acab147825eba0cc966a21ac9ae59a113181c223c4b73e7", func := "limelight/limelightlaw03.OrderUp", spec := "orderUp", unfollowed := true, recurses := true, apart := false }
def OrderUpSaid : Prop := orderUpRow.holds Try.pinned (OpenSpec.ofChange orderUpSpec)

/-- ITS FALSE NEIGHBOUR: 'it returns false'. Refute it at one input. -/
def orderUpWrong : ChangeSpec := { name := "orderUp", fn := fun _ => fun
  | [d1, d2] => { results := [.lit (.bool false)], args := [d1, d2] }
  | _ => none }
def OrderUpWrongFalsely : Prop := orderUpRow.holds Try.pinned (OpenSpec.ofChange orderUpWrong)

/-- 'limelightlaw03.OrderTops': WHATEVER THE INPUT: true; the input reads as it did. -/
def orderTopsSpec : ChangeSpec := { name := "orderTops", fn := fun _ => fun
  | [d1, d2] => { results := [.lit (.bool true)], args := [d1, d2] }
  | _ => none }
def orderTopsRow : OpenClaim := { program := "ytoolkpjbbngdpaa", sum := "ccc7216da22b54456acab147825eba0cc966a21ac9ae59a113181c223c4b73e7", func := "limelight/limelightlaw03.OrderTops", spec := "orderTops", unfollowed := true, recurses := true, apart := false }
def OrderTopsSaid : Prop := orderTopsRow.holds Try.pinned (OpenSpec.ofChange orderTopsSpec)

/-- ITS FALSE NEIGHBOUR: 'it returns false'. Refute it at one input. -/
def orderTopsWrong : ChangeSpec := { name := "orderTops", fn := fun _ => fun
  | [d1, d2] => { results := [.lit (.bool false)], args := [d1, d2] }
  | _ => none }
def OrderTopsWrongFalsely : Prop := orderTopsRow.holds Try.pinned (OpenSpec.ofChange orderTopsWrong)

/-- 'limelightlaw04.ShadeTells': WHATEVER THE INPUT: true; the input reads as it did. -/
def shadeTellsSpec : ChangeSpec := { name := "shadeTells", fn := fun _ => fun
  | [d1, d2, d3] => { results := [.lit (.bool true)], args := [d1, d2, d3] }
  | _ => none }
def shadeTellsRow : OpenClaim := { program := "ytoolkpjbbngdpaa", sum := "ccc7216da22b54456acab147825eba0cc966a21ac9ae59a113181c223c4b73e7", func := "limelight/limelightlaw04.ShadeTells", spec := "shadeTells", unfollowed := true, recurses := true, apart := false }
def ShadeTellsSaid : Prop := shadeTellsRow.holds Try.pinned (OpenSpec.ofChange shadeTellsSpec)

/-- ITS FALSE NEIGHBOUR: 'it returns false'. Refute it at one input. -/
def shadeTellsWrong : ChangeSpec := { name := "shadeTells", fn := fun _ => fun
  | [d1, d2, d3] => { results := [.lit (.bool false)], args := [d1, d2, d3] }
  | _ => none }
def ShadeTellsWrongFalsely : Prop := shadeTellsRow.holds Try.pinned (OpenSpec.ofChange shadeTellsWrong)

/-- 'limelightlaw04.ShadeRetargets': WHATEVER THE INPUT: true; the input reads as it did. -/
def shadeRetargetsSpec : ChangeSpec := { name := "shadeRetargets", fn := fun _ => fun
  | [d1, d2, d3] => { results := [.lit (.bool true)], args := [d1, d2, d3] }
  | _ => none }
def shadeRetargetsRow : OpenClaim := { program := "ytoolkpjbbngdpaa", sum := "ccc7216da22b54456acab147825eba0cc966a21ac9ae59a113181c223c4b73e7", func := "limelight/limelightlaw04.ShadeRetargets", spec := "shadeRetargets", unfollowed := true, recurses := true, apart := false }
def ShadeRetargetsSaid : Prop := shadeRetargetsRow.holds Try.pinned (OpenSpec.ofChange shadeRetargetsSpec)

/-- ITS FALSE NEIGHBOUR: 'it returns false'. Refute it at one input. -/
def shadeRetargetsWrong : ChangeSpec := { name := "shadeRetargets", fn := fun _ => fun
  | [d1, d2, d3] => { results := [.lit (.bool false)], args := [d1, d2, d3] }
  | _ => none }
def ShadeRetargetsWrongFalsely : Prop := shadeRetargetsRow.holds Try.pinned (OpenSpec.ofChange shadeRetargetsWrong)

/-- 'limelightlaw04.ShadeList': WHATEVER THE INPUT: true; the input reads as it did. -/
def shadeListSpec : ChangeSpec := { name := "shadeList", fn := fun _ => fun
  | [d1, d2] => { results := [.lit (.bool true)], args := [d1, d2] }
  | _ => none }
def shadeListRow : OpenClaim := { program := "ytoolkpjbbngdpaa", sum := "ccc7216da22b54456acab147825eba0cc966a21ac9ae59a113181c223c4b73e7", func := "limelight/limelightlaw04.ShadeList", spec := "shadeList", unfollowed := true, recurses := true, apart := false }
def ShadeListSaid : Prop := shadeListRow.holds Try.pinned (OpenSpec.ofChange shadeListSpec)

/-- ITS FALSE NEIGHBOUR: 'it returns false'. Refute it at one input. -/
def shadeListWrong : ChangeSpec := { name := "shadeList", fn := fun _ => fun
  | [d1, d2] => { results := [.lit (.bool false)], args := [d1, d2] }
  | _ => none }
def ShadeListWrongFalsely : Prop := shadeListRow.holds Try.pinned (OpenSpec.ofChange shadeListWrong)

/-- 'limelightlaw04.ShadeLaws': WHATEVER THE INPUT: true; the input reads as it did. -/
def shadeLawsSpec : ChangeSpec := { name := "shadeLaws", fn := fun _ => fun
  | [d1, d2] => { results := [.lit (.bool true)], args := [d1, d2] }
  | _ => none }
def shadeLawsRow : OpenClaim := { program := "ytoolkpjbbngdpaa", sum := "ccc7216da22b54456acab147825eba0cc966a21ac9ae59a113181c223c4b73e7", func := "limelight/limelightlaw04.ShadeLaws", spec := "shadeLaws", unfollowed := true, recurses := true, apart := false }
def ShadeLawsSaid : Prop := shadeLawsRow.holds Try.pinned (OpenSpec.ofChange shadeLawsSpec)

/-- ITS FALSE NEIGHBOUR: 'it returns false'. Refute it at one input. -/
def shadeLawsWrong : ChangeSpec := { name := "shadeLaws", fn := fun _ => fun
  | [d1, d2] => { results := [.lit (.bool false)], args := [d1, d2] }
  | _ => none }
def ShadeLawsWrongFalsely : Prop := shadeLawsRow.holds Try.pinned (OpenSpec.ofChange shadeLawsWrong)

/-- 'limelightlaw04.ShadeNested': WHATEVER THE INPUT: true; the input reads as it did. -/
def shadeNestedSpec : ChangeSpec := { name := "shadeNested", fn := fun _ => fun
  | [d1, d2] => { results := [.lit (.bool true)], args := [d1, d2] }
  | _ => none }
def shadeNestedRow : OpenClaim := { program := "ytoolkpjbbngdpaa", sum := "ccc7216da22b54456acab147825eba0cc966a21ac9ae59a113181c223c4b73e7", func := "limelight/limelightlaw04.ShadeNested", spec := "shadeNested", unfollowed := true, recurses := true, apart := false }
def ShadeNestedSaid : Prop := shadeNestedRow.holds Try.pinned (OpenSpec.ofChange shadeNestedSpec)

/-- ITS FALSE NEIGHBOUR: 'it returns false'. Refute it at one input. -/
def shadeNestedWrong : ChangeSpec := { name := "shadeNested", fn := fun _ => fun
  | [d1, d2] => { results := [.lit (.bool false)], args := [d1, d2] }
  | _ => none }
def ShadeNestedWrongFalsely : Prop := shadeNestedRow.holds Try.pinned (OpenSpec.ofChange shadeNestedWrong)

/- THE SECOND FORM. 'bulk': how many values and letters a reading holds, each counted each time it is reached (what is shared counts as often as it is met; a slice's spare places count too). A statement '..UptoSaid' is the law's where the arguments, and the package variables that the reading takes, are together of bulk at most 1048576: NARROWER than '..Said'. Prove '..Said' where nothing that the law and all that it calls make is longer than what came in: it says more and counts as full. Else prove '..UptoSaid'. A law counts once. -/
mutual
def uptoBulk {H : Type} : DataW H → Nat
  | .lit (.string bytes) => bytes.length + 1
  | .lit _ => 1
  | .nil => 1
  | .ptr d => uptoBulk d + 1
  | .slice elems spare => uptoBulkAll elems + uptoBulkAll spare + 1
  | .agg parts => uptoBulkAll parts + 1
  | .iface _ d => uptoBulk d + 1
  | .map entries => uptoBulkEntries entries + 1
  | .held _ => 1
def uptoBulkAll {H : Type} : List (DataW H) → Nat
  | [] => 0
  | d :: r => uptoBulk d + uptoBulkAll r
def uptoBulkEntries {H : Type} : List (Lit × DataW H) → Nat
  | [] => 0
  | x :: r => uptoBulkEntry x + uptoBulkEntries r
def uptoBulkEntry {H : Type} : Lit × DataW H → Nat
  | (.string bytes, d) => bytes.length + uptoBulk d + 1
  | (_, d) => uptoBulk d + 1
 end
def uptoSmall : (H : Type) → List (DataW H) → Bool := fun _ ds => decide (uptoBulkAll ds ≤ 1048576)
def OpenSpec.upto (s : _root_.Go.ChangeSpec) : _root_.Go.OpenSpec := { _root_.Go.OpenSpec.ofChange s with cond := some uptoSmall }

/-- 'limelightlaw01.TreeMakes', WHERE WHAT IT READS IS OF BULK AT MOST 1048576: true; the input reads as it did. -/
def treeMakesUptoRow : OpenClaim := { program := "ytoolkpjbbngdpaa", sum := "ccc7216da22b54456acab147825eba0cc966a21ac9ae59a113181c223c4b73e7", func := "limelight/limelightlaw01.TreeMakes", spec := "treeMakes", inPlace := ["slices.overlaps[int]"], unfollowed := true, recurses := true, apart := false, narrowed := true }
def TreeMakesUptoSaid : Prop := treeMakesUptoRow.holds Try.pinned (OpenSpec.upto treeMakesSpec)

/-- 'limelightlaw01.TreeMoves', WHERE WHAT IT READS IS OF BULK AT MOST 1048576: true; the input reads as it did. -/
def treeMovesUptoRow : OpenClaim := { program := "ytoolkpjbbngdpaa", sum := "ccc7216da22b54456acab147825eba0cc966a21ac9ae59a113181c223c4b73e7", func := "limelight/limelightlaw01.TreeMoves", spec := "treeMoves", inPlace := ["slices.overlaps[int]"], unfollowed := true, recurses := true, apart := false, narrowed := true }
def TreeMovesUptoSaid : Prop := treeMovesUptoRow.holds Try.pinned (OpenSpec.upto treeMovesSpec)

/-- 'limelightlaw01.TreeStays', WHERE WHAT IT READS IS OF BULK AT MOST 1048576: true; the input reads as it did. -/
def treeStaysUptoRow : OpenClaim := { program := "ytoolkpjbbngdpaa", sum := "ccc7216da22b54456acab147825eba0cc966a21ac9ae59a113181c223c4b73e7", func := "limelight/limelightlaw01.TreeStays", spec := "treeStays", inPlace := ["slices.overlaps[int]"], unfollowed := true, recurses := true, apart := false, narrowed := true }
def TreeStaysUptoSaid : Prop := treeStaysUptoRow.holds Try.pinned (OpenSpec.upto treeStaysSpec)

/-- 'limelightlaw01.TreeBack', WHERE WHAT IT READS IS OF BULK AT MOST 1048576: true; the input reads as it did. -/
def treeBackUptoRow : OpenClaim := { program := "ytoolkpjbbngdpaa", sum := "ccc7216da22b54456acab147825eba0cc966a21ac9ae59a113181c223c4b73e7", func := "limelight/limelightlaw01.TreeBack", spec := "treeBack", inPlace := ["slices.overlaps[int]"], unfollowed := true, recurses := true, apart := false, narrowed := true }
def TreeBackUptoSaid : Prop := treeBackUptoRow.holds Try.pinned (OpenSpec.upto treeBackSpec)

/-- 'limelightlaw01.TreeOnce', WHERE WHAT IT READS IS OF BULK AT MOST 1048576: true; the input reads as it did. -/
def treeOnceUptoRow : OpenClaim := { program := "ytoolkpjbbngdpaa", sum := "ccc7216da22b54456acab147825eba0cc966a21ac9ae59a113181c223c4b73e7", func := "limelight/limelightlaw01.TreeOnce", spec := "treeOnce", inPlace := ["slices.overlaps[int]"], unfollowed := true, recurses := true, apart := false, narrowed := true }
def TreeOnceUptoSaid : Prop := treeOnceUptoRow.holds Try.pinned (OpenSpec.upto treeOnceSpec)

/-- 'limelightlaw01.TreeKeeps', WHERE WHAT IT READS IS OF BULK AT MOST 1048576: true; the input reads as it did. -/
def treeKeepsUptoRow : OpenClaim := { program := "ytoolkpjbbngdpaa", sum := "ccc7216da22b54456acab147825eba0cc966a21ac9ae59a113181c223c4b73e7", func := "limelight/limelightlaw01.TreeKeeps", spec := "treeKeeps", inPlace := ["slices.overlaps[int]"], unfollowed := true, recurses := true, apart := false, narrowed := true }
def TreeKeepsUptoSaid : Prop := treeKeepsUptoRow.holds Try.pinned (OpenSpec.upto treeKeepsSpec)

/-- 'limelightlaw03.OrderTells', WHERE WHAT IT READS IS OF BULK AT MOST 1048576: true; the input reads as it did. -/
def orderTellsUptoRow : OpenClaim := { program := "ytoolkpjbbngdpaa", sum := "ccc7216da22b54456acab147825eba0cc966a21ac9ae59a113181c223c4b73e7", func := "limelight/limelightlaw03.OrderTells", spec := "orderTells", unfollowed := true, recurses := true, apart := false, narrowed := true }
def OrderTellsUptoSaid : Prop := orderTellsUptoRow.holds Try.pinned (OpenSpec.upto orderTellsSpec)

/-- 'limelightlaw03.OrderLaws', WHERE WHAT IT READS IS OF BULK AT MOST 1048576: true; the input reads as it did. -/
def orderLawsUptoRow : OpenClaim := { program := "ytoolkpjbbngdpaa", sum := "ccc7216da22b54456acab147825eba0cc966a21ac9ae59a113181c223c4b73e7", func := "limelight/limelightlaw03.OrderLaws", spec := "orderLaws", unfollowed := true, recurses := true, apart := false, narrowed := true }
def OrderLawsUptoSaid : Prop := orderLawsUptoRow.holds Try.pinned (OpenSpec.upto orderLawsSpec)

/-- 'limelightlaw03.OrderList', WHERE WHAT IT READS IS OF BULK AT MOST 1048576: true; the input reads as it did. -/
def orderListUptoRow : OpenClaim := { program := "ytoolkpjbbngdpaa", sum := "ccc7216da22b54456acab147825eba0cc966a21ac9ae59a113181c223c4b73e7", func := "limelight/limelightlaw03.OrderList", spec := "orderList", unfollowed := true, recurses := true, apart := false, narrowed := true }
def OrderListUptoSaid : Prop := orderListUptoRow.holds Try.pinned (OpenSpec.upto orderListSpec)

/-- 'limelightlaw03.OrderUp', WHERE WHAT IT READS IS OF BULK AT MOST 1048576: true; the input reads as it did. -/
def orderUpUptoRow : OpenClaim := { program := "ytoolkpjbbngdpaa", sum := "ccc7216da22b54456acab147825eba0cc966a21ac9ae59a113181c223c4b73e7", func := "limelight/limelightlaw03.OrderUp", spec := "orderUp", unfollowed := true, recurses := true, apart := false, narrowed := true }
def OrderUpUptoSaid : Prop := orderUpUptoRow.holds Try.pinned (OpenSpec.upto orderUpSpec)

/-- 'limelightlaw03.OrderTops', WHERE WHAT IT READS IS OF BULK AT MOST 1048576: true; the input reads as it did. -/
def orderTopsUptoRow : OpenClaim := { program := "ytoolkpjbbngdpaa", sum := "ccc7216da22b54456acab147825eba0cc966a21ac9ae59a113181c223c4b73e7", func := "limelight/limelightlaw03.OrderTops", spec := "orderTops", unfollowed := true, recurses := true, apart := false, narrowed := true }
def OrderTopsUptoSaid : Prop := orderTopsUptoRow.holds Try.pinned (OpenSpec.upto orderTopsSpec)

/-- 'limelightlaw04.ShadeTells', WHERE WHAT IT READS IS OF BULK AT MOST 1048576: true; the input reads as it did. -/
def shadeTellsUptoRow : OpenClaim := { program := "ytoolkpjbbngdpaa", sum := "ccc7216da22b54456acab147825eba0cc966a21ac9ae59a113181c223c4b73e7", func := "limelight/limelightlaw04.ShadeTells", spec := "shadeTells", unfollowed := true, recurses := true, apart := false, narrowed := true }
def ShadeTellsUptoSaid : Prop := shadeTellsUptoRow.holds Try.pinned (OpenSpec.upto shadeTellsSpec)

/-- 'limelightlaw04.ShadeRetargets', WHERE WHAT IT READS IS OF BULK AT MOST 1048576: true; the input reads as it did. -/
def shadeRetargetsUptoRow : OpenClaim := { program := "ytoolkpjbbngdpaa", sum := "ccc7216da22b54456acab147825eba0cc966a21ac9ae59a113181c223c4b73e7", func := "limelight/limelightlaw04.ShadeRetargets", spec := "shadeRetargets", unfollowed := true, recurses := true, apart := false, narrowed := true }
def ShadeRetargetsUptoSaid : Prop := shadeRetargetsUptoRow.holds Try.pinned (OpenSpec.upto shadeRetargetsSpec)

/-- 'limelightlaw04.ShadeList', WHERE WHAT IT READS IS OF BULK AT MOST 1048576: true; the input reads as it did. -/
def shadeListUptoRow : OpenClaim := { program := "ytoolkpjbbngdpaa", sum := "ccc7216da22b54456acab147825eba0cc966a21ac9ae59a113181c223c4b73e7", func := "limelight/limelightlaw04.ShadeList", spec := "shadeList", unfollowed := true, recurses := true, apart := false, narrowed := true }
def ShadeListUptoSaid : Prop := shadeListUptoRow.holds Try.pinned (OpenSpec.upto shadeListSpec)

/-- 'limelightlaw04.ShadeLaws', WHERE WHAT IT READS IS OF BULK AT MOST 1048576: true; the input reads as it did. -/
def shadeLawsUptoRow : OpenClaim := { program := "ytoolkpjbbngdpaa", sum := "ccc7216da22b54456acab147825eba0cc966a21ac9ae59a113181c223c4b73e7", func := "limelight/limelightlaw04.ShadeLaws", spec := "shadeLaws", unfollowed := true, recurses := true, apart := false, narrowed := true }
def ShadeLawsUptoSaid : Prop := shadeLawsUptoRow.holds Try.pinned (OpenSpec.upto shadeLawsSpec)

/-- 'limelightlaw04.ShadeNested', WHERE WHAT IT READS IS OF BULK AT MOST 1048576: true; the input reads as it did. -/
def shadeNestedUptoRow : OpenClaim := { program := "ytoolkpjbbngdpaa", sum := "ccc7216da22b54456acab147825eba0cc966a21ac9ae59a113181c223c4b73e7", func := "limelight/limelightlaw04.ShadeNested", spec := "shadeNested", unfollowed := true, recurses := true, apart := false, narrowed := true }
def ShadeNestedUptoSaid : Prop := shadeNestedUptoRow.holds Try.pinned (OpenSpec.upto shadeNestedSpec)

end Rows
end Go.Proofs.Ytoolkpjbbngdpaa
