
/- direct.Parse. It makes new memory alone. -/
import Derived.Test.YtggdomeeienjbaaDoorDForm
namespace Go.Proofs.YtggdomeeienjbaaDoor
open Go.ChangeShapes Go.WideShapes Go.ChangeAt Go.RowKit Go.Sort
set_option linter.unusedSimpArgs false
set_option linter.unusedVariables false
theorem opF_wf (x : Bytes) : (Lit.int .i64 (opF x)).wf = true := by unfold opF; repeat' split
                                                                    all_goals decide
theorem kdF_wf (x : Bytes) : (Lit.int .i64 (kdF x)).wf = true := by unfold kdF; repeat' split
                                                                    all_goals decide
end Go.Proofs.YtggdomeeienjbaaDoor
