/- The document's own earliest times: step, Times. They make new memory alone. -/
import Derived.Test.YtjkcjbcbnnpmfaaGR
import Derived.Test.YtjkcjbcbnnpmfaaGU
import Derived.Test.YtjkcjbcbnnpmfaaGN
namespace Go.Proofs.Ytjkcjbcbnnpmfaa
open Go.ChangeShapes Go.WideShapes Go.ChangeAt Go.RowKit Go.Sort Hp
set_option linter.unusedSimpArgs false
set_option linter.unusedVariables false
theorem rnd_next {size : Int} {no : Int → Bool} {l : List Ed} {T : Int → Option Int} {i : Nat} (h : i < l.length) : rndE size no (l.take (i + 1)) T = relE size no (rndE size no (l.take i) T) (gEd l i) := by
  unfold rndE
  rw [List.take_succ_eq_append_getElem h, List.foldl_append]
  show relE size no _ l[i] = _
  rw [gEd_eq h]
end Go.Proofs.Ytjkcjbcbnnpmfaa
