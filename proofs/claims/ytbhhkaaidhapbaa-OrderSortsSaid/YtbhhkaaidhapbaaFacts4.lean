/- XFacts3: an operation that runs by itself. No condition. -/
import Derived.Test.YtbhhkaaidhapbaaFacts3
import Derived.Test.YtbhhkaaidhapbaaQTail
namespace Go.Proofs.Ytbhhkaaidhapbaa
open Go.Sort Go.RowKit
set_option linter.unusedSimpArgs false
set_option linter.unusedVariables false
section
variable {P : Program} {ops : Array Oper}
theorem wpOp_runs {Q : Exit → Act → World → Prop} {i : Nat} {o : Oper} {K : Act → World → Prop} {a : Act} {w w' : World} {v : Value} (ho : ops[i]? = some o) (hg : o.guard = none) (hr : (execOp a.eval o).run P w = .ok (.value v) w') (hK : K (a.put o.dst v) w') : wpOp P ops Q i K a w := by
  refine wpOp_of ho ?_
  rw [if_pos (by simp [Region.wanted, hg])]
  unfold Oper.wp
  rw [hr]
  exact hK
end
end Go.Proofs.Ytbhhkaaidhapbaa
