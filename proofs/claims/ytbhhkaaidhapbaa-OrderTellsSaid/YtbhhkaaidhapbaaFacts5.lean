/- A drawn region by facts: operations under a guard that holds. No condition. -/
import Derived.Test.YtbhhkaaidhapbaaGQ5
import Derived.Test.YtbhhkaaidhapbaaGQ0
namespace Go.Proofs.Ytbhhkaaidhapbaa
open Go.ChangeShapes Go.WideShapes Go.ChangeAt Go.Sort Go.RowKit
set_option linter.unusedSimpArgs false
set_option linter.unusedVariables false
section
variable {P : Program} {ops : Array Oper}
/-- A fact on another operation's value, kept. -/
theorem kE {V : Array Bool} {x : Nat → Value} {i j : Nat} {v u : Value} (f : V.getD j true = true → x j = u) (h : (i == j) = false) : (V.setIfInBounds i true).getD j true = true → upd x i v j = u := fun q => by
  have hn : i ≠ j := by simpa using h
  rw [upd_ne x v (fun e => hn e.symm)]
  exact f (by rw [← getD_set_ne true hn]; exact q)
theorem wanted_on {o oj : Oper} {j : Nat} {pol : Bool} {s : Tmp} {a : Act} (hg : o.guard = some (j, pol)) (hj : ops[j]? = some oj) (hd : oj.dst = some s) (ht : a.tmps[s]?.getD undef = .bool pol) : Region.wanted o (yielded ops a.tmps) = true := by
  have h : a.tmps[s]? = some (.bool pol) := by
    cases h : a.tmps[s]? with
    | none => rw [h] at ht; cases ht
    | some v => rw [h] at ht; exact congrArg some ht
  simp [Region.wanted, hg, yielded, hj, hd, h]
theorem wpOp_runs_on {Q : Exit → Act → World → Prop} {i : Nat} {o : Oper} {K : Act → World → Prop} {a : Act} {w w' : World} {v : Value} (ho : ops[i]? = some o) (hw : Region.wanted o (yielded ops a.tmps) = true) (hr : (execOp a.eval o).run P w = .ok (.value v) w') (hK : K (a.put o.dst v) w') : wpOp P ops Q i K a w := by
  refine wpOp_of ho ?_
  rw [if_pos hw]
  unfold Oper.wp
  rw [hr]
  exact hK
theorem wanted_off {o oj : Oper} {j : Nat} {pol : Bool} {s : Tmp} {a : Act} (hg : o.guard = some (j, pol)) (hj : ops[j]? = some oj) (hd : oj.dst = some s) (ht : a.tmps[s]?.getD undef = .bool (!pol)) : Region.wanted o (yielded ops a.tmps) = false := by
  have h : a.tmps[s]? = some (.bool (!pol)) := by
    cases h : a.tmps[s]? with
    | none => rw [h] at ht; cases ht
    | some v => rw [h] at ht; exact congrArg some ht
  cases pol <;> simp [Region.wanted, hg, yielded, hj, hd, h]
theorem wpOp_off {Q : Exit → Act → World → Prop} {i : Nat} {o : Oper} {K : Act → World → Prop} {a : Act} {w : World} (ho : ops[i]? = some o) (hw : Region.wanted o (yielded ops a.tmps) = false) (hK : K (a.put o.dst undef) w) : wpOp P ops Q i K a w := by
  refine wpOp_of ho ?_
  rw [if_neg (by rw [hw]; simp)]
  exact hK
theorem wpOp_call_on {Q : Exit → Act → World → Prop} {i : Nat} {o : Oper} {K : Act → World → Prop} {a : Act} {w : World} (hi : ops[i]? = some o) (hw : Region.wanted o (yielded ops a.tmps) = true) (f : FuncId) (xs : Array Operand) (ats : Array TypeId)
    (ho : o.op = .call { callee := .value (.func f), args := xs, argTypes := ats }) (vals : Array Value) (hv : #[] ++ xs.map a.eval ++ #[] = vals) {fn : Func} (hf : P.funcs[f]? = some fn) (hb : fn.body.isNone = false) (hnm : (fn.name == "runtime.NumGoroutine") = false)
    (h : Calls P f vals w fun e w' => ∃ v, e = .returned v ∧ K (a.put o.dst v) w') : wpOp P ops Q i K a w := by
  refine wpOp_of hi ?_
  rw [if_pos hw]
  obtain ⟨dst, op, ty, pos, after, guard⟩ := o
  simp only at ho
  subst ho
  unfold Oper.wp
  rw [execOp_call_go, hv]
  have e : (callFunc f vals).run P w = .ok (.enter f vals) w := by
    have h1 : fn.name ≠ "runtime.NumGoroutine" := by simpa using hnm
    have h2 : fn.body ≠ none := by intro e; rw [e] at hb; cases hb
    simp [callFunc, run_program, hf]
    rw [if_neg h1, if_neg h2]
  rw [e]
  refine h.mono ?_
  rintro e w' ⟨v, rfl, hK⟩
  exact hK
end
end Go.Proofs.Ytbhhkaaidhapbaa
