/- Contracts of the document's answer for layer 3: it answers what package check answers, at all arguments. -/
import Derived.Test.YtblihpghalhjoaaCheck
namespace Go.Proofs.Ytblihpghalhjoaa
open Go.ChangeShapes Go.WideShapes Go.ChangeAt Go.RowKit Go.Sort
set_option linter.unusedSimpArgs false
set_option linter.unusedVariables false

theorem ret_bool {a b : Bool} (h : a = b) : Ending.returned (.bool a) = .returned (.bool b) := by rw [h]

theorem rnode_any (n : Int) (w : World) :
    Calls Try.prog 38 #[.int .i64 n] w fun e w' => e = .returned (.bool (nodeB n)) ∧ w = w' := by
  by_cases h1 : 1 ≤ n <;> by_cases h2 : n ≤ 255 <;>
  · go_enter Try.func38, Try.ntmps38
    go_wp2
    go_ret
    exact ⟨by simp [nodeB, inB, h1, h2], rfl⟩

def pairB (fr tn st en : Int) : Bool := wayB fr tn && spanB st en
theorem pairB_spec {fr tn st en : Int} : pairB fr tn st en = true ↔ (1 ≤ fr ∧ fr ≤ 255) ∧ (1 ≤ tn ∧ tn ≤ 255) ∧ fr ≠ tn ∧ 0 ≤ st ∧ st < en ∧ en ≤ 2147483647 := by
  simp [pairB, wayB, nodeB, spanB, inB, and_assoc]

end Go.Proofs.Ytblihpghalhjoaa
