/- A scope whose body begins with its one label: what holds at the label, each time. No condition. -/
import Derived.Test.YtpmibpclkfidkaaLib
namespace Go.Proofs.Ytpmibpclkfidkaa
open Go.ChangeShapes Go.WideShapes Go.ChangeAt Go.RowKit Go.Sort
set_option linter.unusedSimpArgs false
set_option linter.unusedVariables false

theorem wp_scope_label {P : Program} {Q : Exit → Act → World → Prop} {a : Act} {w : World} {l : Nat} {rest : Code} (J : Act → World → Prop) (μ : Act → World → Nat) (h0 : J a w)
    (pass : ∀ a w, J a w → rest.wp P (Exit.jump l (fun a' w' => J a' w' ∧ μ a' w' < μ a w) Q) a w) : (Code.scope (.seq (.label l) rest)).wp P Q a w := by
  refine wp_scope_jumps (rest := .seq .skip rest) l J μ (by simp [findLabel]) ?_ (fun a w hJ => wp_seq (wp_skip (pass a w hJ)))
  refine wp_seq (wp_label (wp_mono (pass a w h0) ?_))
  intro e a' w' h
  cases e <;> first | exact h | exact ⟨h.1, h.2.1⟩
end Go.Proofs.Ytpmibpclkfidkaa
