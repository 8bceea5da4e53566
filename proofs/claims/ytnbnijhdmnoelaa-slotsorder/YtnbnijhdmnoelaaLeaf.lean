/- What all texts of this seat begin with. -/
import Derived.Test.YtnbnijhdmnoelaaRows
import Derived.WalkKit
import Derived.WalkSpells
import Derived.WalkLawsBesides
namespace Go.Proofs.Ytnbnijhdmnoelaa
open Go.RowKit
theorem hideG {p : Prop} (h : p) : Hid p := h
end Go.Proofs.Ytnbnijhdmnoelaa
