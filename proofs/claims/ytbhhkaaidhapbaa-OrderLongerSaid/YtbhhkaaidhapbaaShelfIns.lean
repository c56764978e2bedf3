/- slices.insertionSortCmpFunc at routes, laid over this seat's translation by the kit's command (first: ONE=Derived.Shelf.SlSortCmp.InsertionK, 84 s). -/
import Derived.Shelf.SlSortCmp.InsertionK
import Derived.Shelf.LaySoft
import Derived.Ground.SlsfProg
import Derived.Test.YtbhhkaaidhapbaaProg
namespace Go.Proofs
open Go.Shelf
set_option linter.unusedSimpArgs false
set_option linter.unusedVariables false
shelf_try shelf_lay_g SlLaysF0.n20 Slsf 20 at Try 39 as Try.insRt
shelf_tried
end Go.Proofs
