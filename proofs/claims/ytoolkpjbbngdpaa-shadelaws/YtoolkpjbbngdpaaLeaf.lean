/- What all texts of this seat begin with. -/
import Derived.Test.YtoolkpjbbngdpaaRows
import Derived.WalkKit
import Derived.WalkSpells
import Derived.WalkLawsBesides
namespace Go.Proofs.Ytoolkpjbbngdpaa
open Go.RowKit
theorem hideG {p : Prop} (h : p) : Hid p := h
end Go.Proofs.Ytoolkpjbbngdpaa
