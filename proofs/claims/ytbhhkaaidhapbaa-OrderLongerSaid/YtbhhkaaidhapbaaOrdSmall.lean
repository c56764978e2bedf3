/- The small case of layer 13, reckoned. -/
import Derived.Test.YtbhhkaaidhapbaaOrder9
namespace Go.Proofs.Ytbhhkaaidhapbaa
open Go.ChangeShapes Go.WideShapes Go.ChangeAt Go.RowKit Go.Sort
set_option linter.unusedSimpArgs false
set_option linter.unusedVariables false
def ra : Rt := ([⟨9, 1, 20⟩], 20)
def rb : Rt := ([⟨1, 1, 5⟩, ⟨2, 5, 20⟩], 20)
def rc : Rt := ([⟨1, 1, 5⟩, ⟨3, 5, 20⟩], 20)
def rd : Rt := ([⟨9, 2, 20⟩], 20)
theorem small_sort : compactT (sortT [rc, rb, ra, rd]) = [ra, rb, rc] := by decide +kernel
theorem small_ins : (compactT (sortT ([ra, rc] ++ [rb]))).take 2 = [ra, rb] := by decide +kernel
end Go.Proofs.Ytbhhkaaidhapbaa
