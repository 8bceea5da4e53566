/-
  No cell of these rows narrows 'for every input' (looked for: loops, veiled, ifaces, maps, wideKeys, modest, calm, conditions, laid).
  DERIVED. THE GIVEN ROWS OF THIS SEAT. 22 by the template 'for every input the law returns true; each argument reads behind the call as it read before'; 0 by the template 'total and deterministic' (their statements: YtnbnijhdmnoelaaTotals.lean).
  GIVEN WITH THE SEED: the statements are not yours to turn. If you find one false, say at which input.
  Laid BY PROGRAM, IN A SANDBOX (cutbox-rows.mjs): the forced cells as the released guide's own fill.sh prints them over the translation 459d4d313b0be9f8… (all of the seat's roots in one cut). By AI agents, Wed Nov 11 2026. No macro, syntax, notation, axiom, sorry.
-/
import Derived.Test.YtnbnijhdmnoelaaChecked
import GoSem.Claim
import GoSem.ClaimJoined
import GoSem.ClaimMapViews
import Derived.JoinedTies
import Derived.KernelRfl
namespace Go.Proofs.Ytnbnijhdmnoelaa
/- THE CELL 'sum', in the pinned program and in every row, IS THE sha256 OF THE DUMP (.gsa) THAT YtnbnijhdmnoelaaProg.lean LOADS. Nothing in Lean hashes anything: it is a label: what it is worth is what the hold of that sum in a sandbox is worth. -/
noncomputable def Try.pinned : Pinned := { name := "ytnbnijhdmnoelaa", sum := "459d4d313b0be9f8ee5c54a41e53d22304d3fad8147d5b3e530e253d46dda70e", checked := Try.checked }
namespace Rows
def none {H : Type} : Left H := { results := [], args := [] }

/-- 'limelightlaw03.OrderTells': WHATEVER THE INPUT: true; the input reads as it did. -/
def orderTellsSpec : ChangeSpec := { name := "orderTells", fn := fun _ => fun
  | [d1, d2, d3] => { results := [.lit (.bool true)], args := [d1, d2, d3] }
  | _ => none }
def orderTellsRow : OpenClaim := { program := "ytnbnijhdmnoelaa", sum := "459d4d313b0be9f8ee5c54a41e53d22304d3fad8147d5b3e530e253d46dda70e", func := "limelight/limelightlaw03.OrderTells", spec := "orderTells", unfollowed := true, recurses := true, apart := false }
def OrderTellsSaid : Prop := orderTellsRow.holds Try.pinned (OpenSpec.ofChange orderTellsSpec)

/-- ITS FALSE NEIGHBOUR: 'it returns false'. Refute it at one input. -/
def orderTellsWrong : ChangeSpec := { name := "orderTells", fn := fun _ => fun
  | [d1, d2, d3] => { results := [.lit (.bool false)], args := [d1, d2, d3] }
  | _ => none }
def OrderTellsWrongFalsely : Prop := orderTellsRow.holds Try.pinned (OpenSpec.ofChange orderTellsWrong)

/-- 'limelightlaw03.OrderLaws': WHATEVER THE INPUT: true; the input reads as it did. -/
def orderLawsSpec : ChangeSpec := { name := "orderLaws", fn := fun _ => fun
  | [d1, d2] => { results := [.lit (.bool true)], args := [d1, d2] }
  | _ => none }
def orderLawsRow : OpenClaim := { program := "ytnbnijhdmnoelaa", sum := "459d4d313b0be9f8ee5c54a41e53d22304d3fad8147d5b3e530e253d46dda70e", func := "limelight/limelightlaw03.OrderLaws", spec := "orderLaws", unfollowed := true, recurses := true, apart := false }
def OrderLawsSaid : Prop := orderLawsRow.holds Try.pinned (OpenSpec.ofChange orderLawsSpec)

/-- ITS FALSE NEIGHBOUR: 'it returns false'. Refute it at one input. -/
def orderLawsWrong : ChangeSpec := { name := "orderLaws", fn := fun _ => fun
  | [d1, d2] => { results := [.lit (.bool false)], args := [d1, d2] }
  | _ => none }
def OrderLawsWrongFalsely : Prop := orderLawsRow.holds Try.pinned (OpenSpec.ofChange orderLawsWrong)

/-- 'limelightlaw03.OrderList': WHATEVER THE INPUT: true; the input reads as it did. -/
def orderListSpec : ChangeSpec := { name := "orderList", fn := fun _ => fun
  | [d1, d2] => { results := [.lit (.bool true)], args := [d1, d2] }
  | _ => none }
def orderListRow : OpenClaim := { program := "ytnbnijhdmnoelaa", sum := "459d4d313b0be9f8ee5c54a41e53d22304d3fad8147d5b3e530e253d46dda70e", func := "limelight/limelightlaw03.OrderList", spec := "orderList", unfollowed := true, recurses := true, apart := false }
def OrderListSaid : Prop := orderListRow.holds Try.pinned (OpenSpec.ofChange orderListSpec)

/-- ITS FALSE NEIGHBOUR: 'it returns false'. Refute it at one input. -/
def orderListWrong : ChangeSpec := { name := "orderList", fn := fun _ => fun
  | [d1, d2] => { results := [.lit (.bool false)], args := [d1, d2] }
  | _ => none }
def OrderListWrongFalsely : Prop := orderListRow.holds Try.pinned (OpenSpec.ofChange orderListWrong)

/-- 'limelightlaw03.OrderUp': WHATEVER THE INPUT: true; the input reads as it did. -/
def orderUpSpec : ChangeSpec := { name := "orderUp", fn := fun _ => fun
  | [d1, d2] => { results := [.lit (.bool true)], args := [d1, d2] }
  | _ => none }
def orderUpRow : OpenClaim := { program := "ytnbnijhdmnoelaa", sum := "459d4d313b0be9f8ee5c54a41e53d22304d3fad8147d5b3e530e253d46dda70e", func := "limelight/limelightlaw03.OrderUp", spec := "orderUp", unfollowed := true, recurses := true, apart := false }
def OrderUpSaid : Prop := orderUpRow.holds Try.pinned (OpenSpec.ofChange orderUpSpec)

/-- ITS FALSE NEIGHBOUR: 'it returns false'. Refute it at one input. -/
def orderUpWrong : ChangeSpec := { name := "orderUp", fn := fun _ => fun
  | [d1, d2] => { results := [.lit (.bool false)], args := [d1, d2] }
  | _ => none }
def OrderUpWrongFalsely : Prop := orderUpRow.holds Try.pinned (OpenSpec.ofChange orderUpWrong)

/-- 'limelightlaw03.OrderTops': WHATEVER THE INPUT: true; the input reads as it did. -/
def orderTopsSpec : ChangeSpec := { name := "orderTops", fn := fun _ => fun
  | [d1, d2] => { results := [.lit (.bool true)], args := [d1, d2] }
  | _ => none }
def orderTopsRow : OpenClaim := { program := "ytnbnijhdmnoelaa", sum := "459d4d313b0be9f8ee5c54a41e53d22304d3fad8147d5b3e530e253d46dda70e", func := "limelight/limelightlaw03.OrderTops", spec := "orderTops", unfollowed := true, recurses := true, apart := false }
def OrderTopsSaid : Prop := orderTopsRow.holds Try.pinned (OpenSpec.ofChange orderTopsSpec)

/-- ITS FALSE NEIGHBOUR: 'it returns false'. Refute it at one input. -/
def orderTopsWrong : ChangeSpec := { name := "orderTops", fn := fun _ => fun
  | [d1, d2] => { results := [.lit (.bool false)], args := [d1, d2] }
  | _ => none }
def OrderTopsWrongFalsely : Prop := orderTopsRow.holds Try.pinned (OpenSpec.ofChange orderTopsWrong)

/-- 'limelightlaw04.ShadeTells': WHATEVER THE INPUT: true; the input reads as it did. -/
def shadeTellsSpec : ChangeSpec := { name := "shadeTells", fn := fun _ => fun
  | [d1, d2, d3] => { results := [.lit (.bool true)], args := [d1, d2, d3] }
  | _ => none }
def shadeTellsRow : OpenClaim := { program := "ytnbnijhdmnoelaa", sum := "459d4d313b0be9f8ee5c54a41e53d22304d3fad8147d5b3e530e253d46dda70e", func := "limelight/limelightlaw04.ShadeTells", spec := "shadeTells", unfollowed := true, recurses := true, apart := false }
def ShadeTellsSaid : Prop := shadeTellsRow.holds Try.pinned (OpenSpec.ofChange shadeTellsSpec)

/-- ITS FALSE NEIGHBOUR: 'it returns false'. Refute it at one input. -/
def shadeTellsWrong : ChangeSpec := { name := "shadeTells", fn := fun _ => fun
  | [d1, d2, d3] => { results := [.lit (.bool false)], args := [d1, d2, d3] }
  | _ => none }
def ShadeTellsWrongFalsely : Prop := shadeTellsRow.holds Try.pinned (OpenSpec.ofChange shadeTellsWrong)

/-- 'limelightlaw04.ShadeRetargets': WHATEVER THE INPUT: true; the input reads as it did. -/
def shadeRetargetsSpec : ChangeSpec := { name := "shadeRetargets", fn := fun _ => fun
  | [d1, d2, d3] => { results := [.lit (.bool true)], args := [d1, d2, d3] }
  | _ => none }
def shadeRetargetsRow : OpenClaim := { program := "ytnbnijhdmnoelaa", sum := "459d4d313b0be9f8ee5c54a41e53d22304d3fad8147d5b3e530e253d46dda70e", func := "limelight/limelightlaw04.ShadeRetargets", spec := "shadeRetargets", unfollowed := true, recurses := true, apart := false }
def ShadeRetargetsSaid : Prop := shadeRetargetsRow.holds Try.pinned (OpenSpec.ofChange shadeRetargetsSpec)

/-- ITS FALSE NEIGHBOUR: 'it returns false'. Refute it at one input. -/
def shadeRetargetsWrong : ChangeSpec := { name := "shadeRetargets", fn := fun _ => fun
  | [d1, d2, d3] => { results := [.lit (.bool false)], args := [d1, d2, d3] }
  | _ => none }
def ShadeRetargetsWrongFalsely : Prop := shadeRetargetsRow.holds Try.pinned (OpenSpec.ofChange shadeRetargetsWrong)

/-- 'limelightlaw04.ShadeList': WHATEVER THE INPUT: true; the input reads as it did. -/
def shadeListSpec : ChangeSpec := { name := "shadeList", fn := fun _ => fun
  | [d1, d2] => { results := [.lit (.bool true)], args := [d1, d2] }
  | _ => none }
def shadeListRow : OpenClaim := { program := "ytnbnijhdmnoelaa", sum := "459d4d313b0be9f8ee5c54a41e53d22304d3fad8147d5b3e530e253d46dda70e", func := "limelight/limelightlaw04.ShadeList", spec := "shadeList", unfollowed := true, recurses := true, apart := false }
def ShadeListSaid : Prop := shadeListRow.holds Try.pinned (OpenSpec.ofChange shadeListSpec)

/-- ITS FALSE NEIGHBOUR: 'it returns false'. Refute it at one input. -/
def shadeListWrong : ChangeSpec := { name := "shadeList", fn := fun _ => fun
  | [d1, d2] => { results := [.lit (.bool false)], args := [d1, d2] }
  | _ => none }
def ShadeListWrongFalsely : Prop := shadeListRow.holds Try.pinned (OpenSpec.ofChange shadeListWrong)

/-- 'limelightlaw04.ShadeLaws': WHATEVER THE INPUT: true; the input reads as it did. -/
def shadeLawsSpec : ChangeSpec := { name := "shadeLaws", fn := fun _ => fun
  | [d1, d2] => { results := [.lit (.bool true)], args := [d1, d2] }
  | _ => none }
def shadeLawsRow : OpenClaim := { program := "ytnbnijhdmnoelaa", sum := "459d4d313b0be9f8ee5c54a41e53d22304d3fad8147d5b3e530e253d46dda70e", func := "limelight/limelightlaw04.ShadeLaws", spec := "shadeLaws", unfollowed := true, recurses := true, apart := false }
def ShadeLawsSaid : Prop := shadeLawsRow.holds Try.pinned (OpenSpec.ofChange shadeLawsSpec)

/-- ITS FALSE NEIGHBOUR: 'it returns false'. Refute it at one input. -/
def shadeLawsWrong : ChangeSpec := { name := "shadeLaws", fn := fun _ => fun
  | [d1, d2] => { results := [.lit (.bool false)], args := [d1, d2] }
  | _ => none }
def ShadeLawsWrongFalsely : Prop := shadeLawsRow.holds Try.pinned (OpenSpec.ofChange shadeLawsWrong)

/-- 'limelightlaw04.ShadeNested': WHATEVER THE INPUT: true; the input reads as it did. -/
def shadeNestedSpec : ChangeSpec := { name := "shadeNested", fn := fun _ => fun
  | [d1, d2] => { results := [.lit (.bool true)], args := [d1, d2] }
  | _ => none }
def shadeNestedRow : OpenClaim := { program := "ytnbnijhdmnoelaa", sum := "459d4d313b0be9f8ee5c54a41e53d22304d3fad8147d5b3e530e253d46dda70e", func := "limelight/limelightlaw04.ShadeNested", spec := "shadeNested", unfollowed := true, recurses := true, apart := false }
def ShadeNestedSaid : Prop := shadeNestedRow.holds Try.pinned (OpenSpec.ofChange shadeNestedSpec)

/-- ITS FALSE NEIGHBOUR: 'it returns false'. Refute it at one input. -/
def shadeNestedWrong : ChangeSpec := { name := "shadeNested", fn := fun _ => fun
  | [d1, d2] => { results := [.lit (.bool false)], args := [d1, d2] }
  | _ => none }
def ShadeNestedWrongFalsely : Prop := shadeNestedRow.holds Try.pinned (OpenSpec.ofChange shadeNestedWrong)

/-- 'limelightlaw05.SlotsTell': WHATEVER THE INPUT: true; the input reads as it did. -/
def slotsTellSpec : ChangeSpec := { name := "slotsTell", fn := fun _ => fun
  | [d1, d2] => { results := [.lit (.bool true)], args := [d1, d2] }
  | _ => none }
def slotsTellRow : OpenClaim := { program := "ytnbnijhdmnoelaa", sum := "459d4d313b0be9f8ee5c54a41e53d22304d3fad8147d5b3e530e253d46dda70e", func := "limelight/limelightlaw05.SlotsTell", spec := "slotsTell", unfollowed := true, recurses := true, apart := false }
def SlotsTellSaid : Prop := slotsTellRow.holds Try.pinned (OpenSpec.ofChange slotsTellSpec)

/-- ITS FALSE NEIGHBOUR: 'it returns false'. Refute it at one input. -/
def slotsTellWrong : ChangeSpec := { name := "slotsTell", fn := fun _ => fun
  | [d1, d2] => { results := [.lit (.bool false)], args := [d1, d2] }
  | _ => none }
def SlotsTellWrongFalsely : Prop := slotsTellRow.holds Try.pinned (OpenSpec.ofChange slotsTellWrong)

/-- 'limelightlaw05.SlotsOnce': WHATEVER THE INPUT: true; the input reads as it did. -/
def slotsOnceSpec : ChangeSpec := { name := "slotsOnce", fn := fun _ => fun
  | [d] => { results := [.lit (.bool true)], args := [d] }
  | _ => none }
def slotsOnceRow : OpenClaim := { program := "ytnbnijhdmnoelaa", sum := "459d4d313b0be9f8ee5c54a41e53d22304d3fad8147d5b3e530e253d46dda70e", func := "limelight/limelightlaw05.SlotsOnce", spec := "slotsOnce", unfollowed := true, recurses := true, apart := false }
def SlotsOnceSaid : Prop := slotsOnceRow.holds Try.pinned (OpenSpec.ofChange slotsOnceSpec)

/-- ITS FALSE NEIGHBOUR: 'it returns false'. Refute it at one input. -/
def slotsOnceWrong : ChangeSpec := { name := "slotsOnce", fn := fun _ => fun
  | [d] => { results := [.lit (.bool false)], args := [d] }
  | _ => none }
def SlotsOnceWrongFalsely : Prop := slotsOnceRow.holds Try.pinned (OpenSpec.ofChange slotsOnceWrong)

/-- 'limelightlaw05.SlotsNamed': WHATEVER THE INPUT: true; the input reads as it did. -/
def slotsNamedSpec : ChangeSpec := { name := "slotsNamed", fn := fun _ => fun
  | [d1, d2] => { results := [.lit (.bool true)], args := [d1, d2] }
  | _ => none }
def slotsNamedRow : OpenClaim := { program := "ytnbnijhdmnoelaa", sum := "459d4d313b0be9f8ee5c54a41e53d22304d3fad8147d5b3e530e253d46dda70e", func := "limelight/limelightlaw05.SlotsNamed", spec := "slotsNamed", unfollowed := true, recurses := true, apart := false }
def SlotsNamedSaid : Prop := slotsNamedRow.holds Try.pinned (OpenSpec.ofChange slotsNamedSpec)

/-- ITS FALSE NEIGHBOUR: 'it returns false'. Refute it at one input. -/
def slotsNamedWrong : ChangeSpec := { name := "slotsNamed", fn := fun _ => fun
  | [d1, d2] => { results := [.lit (.bool false)], args := [d1, d2] }
  | _ => none }
def SlotsNamedWrongFalsely : Prop := slotsNamedRow.holds Try.pinned (OpenSpec.ofChange slotsNamedWrong)

/-- 'limelightlaw05.SlotsHosts': WHATEVER THE INPUT: true; the input reads as it did. -/
def slotsHostsSpec : ChangeSpec := { name := "slotsHosts", fn := fun _ => fun
  | [d] => { results := [.lit (.bool true)], args := [d] }
  | _ => none }
def slotsHostsRow : OpenClaim := { program := "ytnbnijhdmnoelaa", sum := "459d4d313b0be9f8ee5c54a41e53d22304d3fad8147d5b3e530e253d46dda70e", func := "limelight/limelightlaw05.SlotsHosts", spec := "slotsHosts", unfollowed := true, recurses := true, apart := false }
def SlotsHostsSaid : Prop := slotsHostsRow.holds Try.pinned (OpenSpec.ofChange slotsHostsSpec)

/-- ITS FALSE NEIGHBOUR: 'it returns false'. Refute it at one input. -/
def slotsHostsWrong : ChangeSpec := { name := "slotsHosts", fn := fun _ => fun
  | [d] => { results := [.lit (.bool false)], args := [d] }
  | _ => none }
def SlotsHostsWrongFalsely : Prop := slotsHostsRow.holds Try.pinned (OpenSpec.ofChange slotsHostsWrong)

/-- 'limelightlaw05.SlotsOrder': WHATEVER THE INPUT: true; the input reads as it did. -/
def slotsOrderSpec : ChangeSpec := { name := "slotsOrder", fn := fun _ => fun
  | [d1, d2] => { results := [.lit (.bool true)], args := [d1, d2] }
  | _ => none }
def slotsOrderRow : OpenClaim := { program := "ytnbnijhdmnoelaa", sum := "459d4d313b0be9f8ee5c54a41e53d22304d3fad8147d5b3e530e253d46dda70e", func := "limelight/limelightlaw05.SlotsOrder", spec := "slotsOrder", unfollowed := true, recurses := true, apart := false }
def SlotsOrderSaid : Prop := slotsOrderRow.holds Try.pinned (OpenSpec.ofChange slotsOrderSpec)

/-- ITS FALSE NEIGHBOUR: 'it returns false'. Refute it at one input. -/
def slotsOrderWrong : ChangeSpec := { name := "slotsOrder", fn := fun _ => fun
  | [d1, d2] => { results := [.lit (.bool false)], args := [d1, d2] }
  | _ => none }
def SlotsOrderWrongFalsely : Prop := slotsOrderRow.holds Try.pinned (OpenSpec.ofChange slotsOrderWrong)

/-- 'limelightlaw05.SlotsNone': WHATEVER THE INPUT: true; the input reads as it did. -/
def slotsNoneSpec : ChangeSpec := { name := "slotsNone", fn := fun _ => fun
  | [d] => { results := [.lit (.bool true)], args := [d] }
  | _ => none }
def slotsNoneRow : OpenClaim := { program := "ytnbnijhdmnoelaa", sum := "459d4d313b0be9f8ee5c54a41e53d22304d3fad8147d5b3e530e253d46dda70e", func := "limelight/limelightlaw05.SlotsNone", spec := "slotsNone", unfollowed := true, recurses := true, apart := false }
def SlotsNoneSaid : Prop := slotsNoneRow.holds Try.pinned (OpenSpec.ofChange slotsNoneSpec)

/-- ITS FALSE NEIGHBOUR: 'it returns false'. Refute it at one input. -/
def slotsNoneWrong : ChangeSpec := { name := "slotsNone", fn := fun _ => fun
  | [d] => { results := [.lit (.bool false)], args := [d] }
  | _ => none }
def SlotsNoneWrongFalsely : Prop := slotsNoneRow.holds Try.pinned (OpenSpec.ofChange slotsNoneWrong)

/-- 'limelightlaw06.FlatTells': WHATEVER THE INPUT: true; the input reads as it did. -/
def flatTellsSpec : ChangeSpec := { name := "flatTells", fn := fun _ => fun
  | [d1, d2, d3] => { results := [.lit (.bool true)], args := [d1, d2, d3] }
  | _ => none }
def flatTellsRow : OpenClaim := { program := "ytnbnijhdmnoelaa", sum := "459d4d313b0be9f8ee5c54a41e53d22304d3fad8147d5b3e530e253d46dda70e", func := "limelight/limelightlaw06.FlatTells", spec := "flatTells", unfollowed := true, recurses := true, apart := false }
def FlatTellsSaid : Prop := flatTellsRow.holds Try.pinned (OpenSpec.ofChange flatTellsSpec)

/-- ITS FALSE NEIGHBOUR: 'it returns false'. Refute it at one input. -/
def flatTellsWrong : ChangeSpec := { name := "flatTells", fn := fun _ => fun
  | [d1, d2, d3] => { results := [.lit (.bool false)], args := [d1, d2, d3] }
  | _ => none }
def FlatTellsWrongFalsely : Prop := flatTellsRow.holds Try.pinned (OpenSpec.ofChange flatTellsWrong)

/-- 'limelightlaw06.FlatList': WHATEVER THE INPUT: true; the input reads as it did. -/
def flatListSpec : ChangeSpec := { name := "flatList", fn := fun _ => fun
  | [d] => { results := [.lit (.bool true)], args := [d] }
  | _ => none }
def flatListRow : OpenClaim := { program := "ytnbnijhdmnoelaa", sum := "459d4d313b0be9f8ee5c54a41e53d22304d3fad8147d5b3e530e253d46dda70e", func := "limelight/limelightlaw06.FlatList", spec := "flatList", unfollowed := true, recurses := true, apart := false }
def FlatListSaid : Prop := flatListRow.holds Try.pinned (OpenSpec.ofChange flatListSpec)

/-- ITS FALSE NEIGHBOUR: 'it returns false'. Refute it at one input. -/
def flatListWrong : ChangeSpec := { name := "flatList", fn := fun _ => fun
  | [d] => { results := [.lit (.bool false)], args := [d] }
  | _ => none }
def FlatListWrongFalsely : Prop := flatListRow.holds Try.pinned (OpenSpec.ofChange flatListWrong)

/-- 'limelightlaw06.FlatOnce': WHATEVER THE INPUT: true; the input reads as it did. -/
def flatOnceSpec : ChangeSpec := { name := "flatOnce", fn := fun _ => fun
  | [d] => { results := [.lit (.bool true)], args := [d] }
  | _ => none }
def flatOnceRow : OpenClaim := { program := "ytnbnijhdmnoelaa", sum := "459d4d313b0be9f8ee5c54a41e53d22304d3fad8147d5b3e530e253d46dda70e", func := "limelight/limelightlaw06.FlatOnce", spec := "flatOnce", unfollowed := true, recurses := true, apart := false }
def FlatOnceSaid : Prop := flatOnceRow.holds Try.pinned (OpenSpec.ofChange flatOnceSpec)

/-- ITS FALSE NEIGHBOUR: 'it returns false'. Refute it at one input. -/
def flatOnceWrong : ChangeSpec := { name := "flatOnce", fn := fun _ => fun
  | [d] => { results := [.lit (.bool false)], args := [d] }
  | _ => none }
def FlatOnceWrongFalsely : Prop := flatOnceRow.holds Try.pinned (OpenSpec.ofChange flatOnceWrong)

/-- 'limelightlaw06.FlatUp': WHATEVER THE INPUT: true; the input reads as it did. -/
def flatUpSpec : ChangeSpec := { name := "flatUp", fn := fun _ => fun
  | [d1, d2] => { results := [.lit (.bool true)], args := [d1, d2] }
  | _ => none }
def flatUpRow : OpenClaim := { program := "ytnbnijhdmnoelaa", sum := "459d4d313b0be9f8ee5c54a41e53d22304d3fad8147d5b3e530e253d46dda70e", func := "limelight/limelightlaw06.FlatUp", spec := "flatUp", unfollowed := true, recurses := true, apart := false }
def FlatUpSaid : Prop := flatUpRow.holds Try.pinned (OpenSpec.ofChange flatUpSpec)

/-- ITS FALSE NEIGHBOUR: 'it returns false'. Refute it at one input. -/
def flatUpWrong : ChangeSpec := { name := "flatUp", fn := fun _ => fun
  | [d1, d2] => { results := [.lit (.bool false)], args := [d1, d2] }
  | _ => none }
def FlatUpWrongFalsely : Prop := flatUpRow.holds Try.pinned (OpenSpec.ofChange flatUpWrong)

/-- 'limelightlaw06.FlatPlain': WHATEVER THE INPUT: true; the input reads as it did. -/
def flatPlainSpec : ChangeSpec := { name := "flatPlain", fn := fun _ => fun
  | [d] => { results := [.lit (.bool true)], args := [d] }
  | _ => none }
def flatPlainRow : OpenClaim := { program := "ytnbnijhdmnoelaa", sum := "459d4d313b0be9f8ee5c54a41e53d22304d3fad8147d5b3e530e253d46dda70e", func := "limelight/limelightlaw06.FlatPlain", spec := "flatPlain", unfollowed := true, recurses := true, apart := false }
def FlatPlainSaid : Prop := flatPlainRow.holds Try.pinned (OpenSpec.ofChange flatPlainSpec)

/-- ITS FALSE NEIGHBOUR: 'it returns false'. Refute it at one input. -/
def flatPlainWrong : ChangeSpec := { name := "flatPlain", fn := fun _ => fun
  | [d] => { results := [.lit (.bool false)], args := [d] }
  | _ => none }
def FlatPlainWrongFalsely : Prop := flatPlainRow.holds Try.pinned (OpenSpec.ofChange flatPlainWrong)

/-- 'limelightlaw06.FlatHosts': WHATEVER THE INPUT: true; the input reads as it did. -/
def flatHostsSpec : ChangeSpec := { name := "flatHosts", fn := fun _ => fun
  | [d] => { results := [.lit (.bool true)], args := [d] }
  | _ => none }
def flatHostsRow : OpenClaim := { program := "ytnbnijhdmnoelaa", sum := "459d4d313b0be9f8ee5c54a41e53d22304d3fad8147d5b3e530e253d46dda70e", func := "limelight/limelightlaw06.FlatHosts", spec := "flatHosts", unfollowed := true, recurses := true, apart := false }
def FlatHostsSaid : Prop := flatHostsRow.holds Try.pinned (OpenSpec.ofChange flatHostsSpec)

/-- ITS FALSE NEIGHBOUR: 'it returns false'. Refute it at one input. -/
def flatHostsWrong : ChangeSpec := { name := "flatHosts", fn := fun _ => fun
  | [d] => { results := [.lit (.bool false)], args := [d] }
  | _ => none }
def FlatHostsWrongFalsely : Prop := flatHostsRow.holds Try.pinned (OpenSpec.ofChange flatHostsWrong)

/- THE SECOND FORM. 'bulk': how many values and letters a reading holds, each counted each time it is reached (what is shared counts as often as it is met; a slice's spare places count too). A statement '..UptoSaid' is the law's where the arguments, and the package variables that the reading takes, are together of bulk at most 1048576: NARROWER than '..Said'. Prove '..Said' where nothing that the law and all that it calls make is longer than what came in: it says more and counts as full. Else prove '..UptoSaid'. A law counts once. -/
mutual
def uptoBulk {H : Type} : DataW H → Nat
  | .lit (.string bytes) => bytes.length + 1
  | .lit _ => 1
  | .nil => 1
  | .ptr d => uptoBulk d + 1
  | .slice elems spare => uptoBulkAll elems + uptoBulkAll spare + 1
  | .agg parts => uptoBulkAll parts + 1
  | .iface _ d => uptoBulk d + 1
  | .map entries => uptoBulkEntries entries + 1
  | .held _ => 1
def uptoBulkAll {H : Type} : List (DataW H) → Nat
  | [] => 0
  | d :: r => uptoBulk d + uptoBulkAll r
def uptoBulkEntries {H : Type} : List (Lit × DataW H) → Nat
  | [] => 0
  | x :: r => uptoBulkEntry x + uptoBulkEntries r
def uptoBulkEntry {H : Type} : Lit × DataW H → Nat
  | (.string bytes, d) => bytes.length + uptoBulk d + 1
  | (_, d) => uptoBulk d + 1
 end
def uptoSmall : (H : Type) → List (DataW H) → Bool := fun _ ds => decide (uptoBulkAll ds ≤ 1048576)
def OpenSpec.upto (s : _root_.Go.ChangeSpec) : _root_.Go.OpenSpec := { _root_.Go.OpenSpec.ofChange s with cond := some uptoSmall }

/-- 'limelightlaw03.OrderTells', WHERE WHAT IT READS IS OF BULK AT MOST 1048576: true; the input reads as it did. -/
def orderTellsUptoRow : OpenClaim := { program := "ytnbnijhdmnoelaa", sum := "459d4d313b0be9f8ee5c54a41e53d22304d3fad8147d5b3e530e253d46dda70e", func := "limelight/limelightlaw03.OrderTells", spec := "orderTells", unfollowed := true, recurses := true, apart := false, narrowed := true }
def OrderTellsUptoSaid : Prop := orderTellsUptoRow.holds Try.pinned (OpenSpec.upto orderTellsSpec)

/-- 'limelightlaw03.OrderLaws', WHERE WHAT IT READS IS OF BULK AT MOST 1048576: true; the input reads as it did. -/
def orderLawsUptoRow : OpenClaim := { program := "ytnbnijhdmnoelaa", sum := "459d4d313b0be9f8ee5c54a41e53d22304d3fad8147d5b3e530e253d46dda70e", func := "limelight/limelightlaw03.OrderLaws", spec := "orderLaws", unfollowed := true, recurses := true, apart := false, narrowed := true }
def OrderLawsUptoSaid : Prop := orderLawsUptoRow.holds Try.pinned (OpenSpec.upto orderLawsSpec)

/-- 'limelightlaw03.OrderList', WHERE WHAT IT READS IS OF BULK AT MOST 1048576: true; the input reads as it did. -/
def orderListUptoRow : OpenClaim := { program := "ytnbnijhdmnoelaa", sum := "459d4d313b0be9f8ee5c54a41e53d22304d3fad8147d5b3e530e253d46dda70e", func := "limelight/limelightlaw03.OrderList", spec := "orderList", unfollowed := true, recurses := true, apart := false, narrowed := true }
def OrderListUptoSaid : Prop := orderListUptoRow.holds Try.pinned (OpenSpec.upto orderListSpec)

/-- 'limelightlaw03.OrderUp', WHERE WHAT IT READS IS OF BULK AT MOST 1048576: true; the input reads as it did. -/
def orderUpUptoRow : OpenClaim := { program := "ytnbnijhdmnoelaa", sum := "459d4d313b0be9f8ee5c54a41e53d22304d3fad8147d5b3e530e253d46dda70e", func := "limelight/limelightlaw03.OrderUp", spec := "orderUp", unfollowed := true, recurses := true, apart := false, narrowed := true }
def OrderUpUptoSaid : Prop := orderUpUptoRow.holds Try.pinned (OpenSpec.upto orderUpSpec)

/-- 'limelightlaw03.OrderTops', WHERE WHAT IT READS IS OF BULK AT MOST 1048576: true; the input reads as it did. -/
def orderTopsUptoRow : OpenClaim := { program := "ytnbnijhdmnoelaa", sum := "459d4d313b0be9f8ee5c54a41e53d22304d3fad8147d5b3e530e253d46dda70e", func := "limelight/limelightlaw03.OrderTops", spec := "orderTops", unfollowed := true, recurses := true, apart := false, narrowed := true }
def OrderTopsUptoSaid : Prop := orderTopsUptoRow.holds Try.pinned (OpenSpec.upto orderTopsSpec)

/-- 'limelightlaw04.ShadeTells', WHERE WHAT IT READS IS OF BULK AT MOST 1048576: true; the input reads as it did. -/
def shadeTellsUptoRow : OpenClaim := { program := "ytnbnijhdmnoelaa", sum := "459d4d313b0be9f8ee5c54a41e53d22304d3fad8147d5b3e530e253d46dda70e", func := "limelight/limelightlaw04.ShadeTells", spec := "shadeTells", unfollowed := true, recurses := true, apart := false, narrowed := true }
def ShadeTellsUptoSaid : Prop := shadeTellsUptoRow.holds Try.pinned (OpenSpec.upto shadeTellsSpec)

/-- 'limelightlaw04.ShadeRetargets', WHERE WHAT IT READS IS OF BULK AT MOST 1048576: true; the input reads as it did. -/
def shadeRetargetsUptoRow : OpenClaim := { program := "ytnbnijhdmnoelaa", sum := "459d4d313b0be9f8ee5c54a41e53d22304d3fad8147d5b3e530e253d46dda70e", func := "limelight/limelightlaw04.ShadeRetargets", spec := "shadeRetargets", unfollowed := true, recurses := true, apart := false, narrowed := true }
def ShadeRetargetsUptoSaid : Prop := shadeRetargetsUptoRow.holds Try.pinned (OpenSpec.upto shadeRetargetsSpec)

/-- 'limelightlaw04.ShadeList', WHERE WHAT IT READS IS OF BULK AT MOST 1048576: true; the input reads as it did. -/
def shadeListUptoRow : OpenClaim := { program := "ytnbnijhdmnoelaa", sum := "459d4d313b0be9f8ee5c54a41e53d22304d3fad8147d5b3e530e253d46dda70e", func := "limelight/limelightlaw04.ShadeList", spec := "shadeList", unfollowed := true, recurses := true, apart := false, narrowed := true }
def ShadeListUptoSaid : Prop := shadeListUptoRow.holds Try.pinned (OpenSpec.upto shadeListSpec)

/-- 'limelightlaw04.ShadeLaws', WHERE WHAT IT READS IS OF BULK AT MOST 1048576: true; the input reads as it did. -/
def shadeLawsUptoRow : OpenClaim := { program := "ytnbnijhdmnoelaa", sum := "459d4d313b0be9f8ee5c54a41e53d22304d3fad8147d5b3e530e253d46dda70e", func := "limelight/limelightlaw04.ShadeLaws", spec := "shadeLaws", unfollowed := true, recurses := true, apart := false, narrowed := true }
def ShadeLawsUptoSaid : Prop := shadeLawsUptoRow.holds Try.pinned (OpenSpec.upto shadeLawsSpec)

/-- 'limelightlaw04.ShadeNested', WHERE WHAT IT READS IS OF BULK AT MOST 1048576: true; the input reads as it did. -/
def shadeNestedUptoRow : OpenClaim := { program := "ytnbnijhdmnoelaa", sum := "459d4d313b0be9f8ee5c54a41e53d22304d3fad8147d5b3e530e253d46dda70e", func := "limelight/limelightlaw04.ShadeNested", spec := "shadeNested", unfollowed := true, recurses := true, apart := false, narrowed := true }
def ShadeNestedUptoSaid : Prop := shadeNestedUptoRow.holds Try.pinned (OpenSpec.upto shadeNestedSpec)

/-- 'limelightlaw05.SlotsTell', WHERE WHAT IT READS IS OF BULK AT MOST 1048576: true; the input reads as it did. -/
def slotsTellUptoRow : OpenClaim := { program := "ytnbnijhdmnoelaa", sum := "459d4d313b0be9f8ee5c54a41e53d22304d3fad8147d5b3e530e253d46dda70e", func := "limelight/limelightlaw05.SlotsTell", spec := "slotsTell", unfollowed := true, recurses := true, apart := false, narrowed := true }
def SlotsTellUptoSaid : Prop := slotsTellUptoRow.holds Try.pinned (OpenSpec.upto slotsTellSpec)

/-- 'limelightlaw05.SlotsOnce', WHERE WHAT IT READS IS OF BULK AT MOST 1048576: true; the input reads as it did. -/
def slotsOnceUptoRow : OpenClaim := { program := "ytnbnijhdmnoelaa", sum := "459d4d313b0be9f8ee5c54a41e53d22304d3fad8147d5b3e530e253d46dda70e", func := "limelight/limelightlaw05.SlotsOnce", spec := "slotsOnce", unfollowed := true, recurses := true, apart := false, narrowed := true }
def SlotsOnceUptoSaid : Prop := slotsOnceUptoRow.holds Try.pinned (OpenSpec.upto slotsOnceSpec)

/-- 'limelightlaw05.SlotsNamed', WHERE WHAT IT READS IS OF BULK AT MOST 1048576: true; the input reads as it did. -/
def slotsNamedUptoRow : OpenClaim := { program := "ytnbnijhdmnoelaa", sum := "459d4d313b0be9f8ee5c54a41e53d22304d3fad8147d5b3e530e253d46dda70e", func := "limelight/limelightlaw05.SlotsNamed", spec := "slotsNamed", unfollowed := true, recurses := true, apart := false, narrowed := true }
def SlotsNamedUptoSaid : Prop := slotsNamedUptoRow.holds Try.pinned (OpenSpec.upto slotsNamedSpec)

/-- 'limelightlaw05.SlotsHosts', WHERE WHAT IT READS IS OF BULK AT MOST 1048576: true; the input reads as it did. -/
def slotsHostsUptoRow : OpenClaim := { program := "ytnbnijhdmnoelaa", sum := "459d4d313b0be9f8ee5c54a41e53d22304d3fad8147d5b3e530e253d46dda70e", func := "limelight/limelightlaw05.SlotsHosts", spec := "slotsHosts", unfollowed := true, recurses := true, apart := false, narrowed := true }
def SlotsHostsUptoSaid : Prop := slotsHostsUptoRow.holds Try.pinned (OpenSpec.upto slotsHostsSpec)

/-- 'limelightlaw05.SlotsOrder', WHERE WHAT IT READS IS OF BULK AT MOST 1048576: true; the input reads as it did. -/
def slotsOrderUptoRow : OpenClaim := { program := "ytnbnijhdmnoelaa", sum := "459d4d313b0be9f8ee5c54a41e53d22304d3fad8147d5b3e530e253d46dda70e", func := "limelight/limelightlaw05.SlotsOrder", spec := "slotsOrder", unfollowed := true, recurses := true, apart := false, narrowed := true }
def SlotsOrderUptoSaid : Prop := slotsOrderUptoRow.holds Try.pinned (OpenSpec.upto slotsOrderSpec)

/-- 'limelightlaw05.SlotsNone', WHERE WHAT IT READS IS OF BULK AT MOST 1048576: true; the input reads as it did. -/
def slotsNoneUptoRow : OpenClaim := { program := "ytnbnijhdmnoelaa", sum := "459d4d313b0be9f8ee5c54a41e53d22304d3fad8147d5b3e530e253d46dda70e", func := "limelight/limelightlaw05.SlotsNone", spec := "slotsNone", unfollowed := true, recurses := true, apart := false, narrowed := true }
def SlotsNoneUptoSaid : Prop := slotsNoneUptoRow.holds Try.pinned (OpenSpec.upto slotsNoneSpec)

/-- 'limelightlaw06.FlatTells', WHERE WHAT IT READS IS OF BULK AT MOST 1048576: true; the input reads as it did. -/
def flatTellsUptoRow : OpenClaim := { program := "ytnbnijhdmnoelaa", sum := "459d4d313b0be9f8ee5c54a41e53d22304d3fad8147d5b3e530e253d46dda70e", func := "limelight/limelightlaw06.FlatTells", spec := "flatTells", unfollowed := true, recurses := true, apart := false, narrowed := true }
def FlatTellsUptoSaid : Prop := flatTellsUptoRow.holds Try.pinned (OpenSpec.upto flatTellsSpec)

/-- 'limelightlaw06.FlatList', WHERE WHAT IT READS IS OF BULK AT MOST 1048576: true; the input reads as it did. -/
def flatListUptoRow : OpenClaim := { program := "ytnbnijhdmnoelaa", sum := "459d4d313b0be9f8ee5c54a41e53d22304d3fad8147d5b3e530e253d46dda70e", func := "limelight/limelightlaw06.FlatList", spec := "flatList", unfollowed := true, recurses := true, apart := false, narrowed := true }
def FlatListUptoSaid : Prop := flatListUptoRow.holds Try.pinned (OpenSpec.upto flatListSpec)

/-- 'limelightlaw06.FlatOnce', WHERE WHAT IT READS IS OF BULK AT MOST 1048576: true; the input reads as it did. -/
def flatOnceUptoRow : OpenClaim := { program := "ytnbnijhdmnoelaa", sum := "459d4d313b0be9f8ee5c54a41e53d22304d3fad8147d5b3e530e253d46dda70e", func := "limelight/limelightlaw06.FlatOnce", spec := "flatOnce", unfollowed := true, recurses := true, apart := false, narrowed := true }
def FlatOnceUptoSaid : Prop := flatOnceUptoRow.holds Try.pinned (OpenSpec.upto flatOnceSpec)

/-- 'limelightlaw06.FlatUp', WHERE WHAT IT READS IS OF BULK AT MOST 1048576: true; the input reads as it did. -/
def flatUpUptoRow : OpenClaim := { program := "ytnbnijhdmnoelaa", sum := "459d4d313b0be9f8ee5c54a41e53d22304d3fad8147d5b3e530e253d46dda70e", func := "limelight/limelightlaw06.FlatUp", spec := "flatUp", unfollowed := true, recurses := true, apart := false, narrowed := true }
def FlatUpUptoSaid : Prop := flatUpUptoRow.holds Try.pinned (OpenSpec.upto flatUpSpec)

/-- 'limelightlaw06.FlatPlain', WHERE WHAT IT READS IS OF BULK AT MOST 1048576: true; the input reads as it did. -/
def flatPlainUptoRow : OpenClaim := { program := "ytnbnijhdmnoelaa", sum := "459d4d313b0be9f8ee5c54a41e53d22304d3fad8147d5b3e530e253d46dda70e", func := "limelight/limelightlaw06.FlatPlain", spec := "flatPlain", unfollowed := true, recurses := true, apart := false, narrowed := true }
def FlatPlainUptoSaid : Prop := flatPlainUptoRow.holds Try.pinned (OpenSpec.upto flatPlainSpec)

/-- 'limelightlaw06.FlatHosts', WHERE WHAT IT READS IS OF BULK AT MOST 1048576: true; the input reads as it did. -/
def flatHostsUptoRow : OpenClaim := { program := "ytnbnijhdmnoelaa", sum := "459d4d313b0be9f8ee5c54a41e53d22304d3fad8147d5b3e530e253d46dda70e", func := "limelight/limelightlaw06.FlatHosts", spec := "flatHosts", unfollowed := true, recurses := true, apart := false, narrowed := true }
def FlatHostsUptoSaid : Prop := flatHostsUptoRow.holds Try.pinned (OpenSpec.upto flatHostsSpec)

end Rows
end Go.Proofs.Ytnbnijhdmnoelaa
