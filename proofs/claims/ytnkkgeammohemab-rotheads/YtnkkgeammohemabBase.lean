/- Small words that the walks share. -/
import Derived.Test.YtnkkgeammohemabProg
import Derived.WalkKit
import Derived.WalkSpells
import Derived.WalkLawsBesides
import Derived.BigQuiet
import Derived.Deep.DeepFit
import Derived.Outline
import Derived.Test.YtnkkgeammohemabSpec
namespace Go.Proofs.Ytnkkgeammohemab
open Go.RowKit

theorem hide {p : Prop} (h : p) : Hid p := h
theorem unhide {p : Prop} (h : Hid p) : p := h
end Go.Proofs.Ytnkkgeammohemab


