
/- Contract of text.Parse: the directives of a text, or its first fault. It makes new memory alone. -/
import Derived.Test.YtggdomeeienjbaaDoorTx1
import Derived.Test.YtggdomeeienjbaaDoorDFacts
namespace Go.Proofs.YtggdomeeienjbaaDoor
open Go.ChangeShapes Go.WideShapes Go.ChangeAt Go.RowKit Go.Sort
set_option linter.unusedSimpArgs false
set_option linter.unusedVariables false
theorem flatDr_one_ (y : Dr) : flatDr [y] = [.int .i64 y.op, .int .i64 y.kd, .int .i64 y.id, .int .i64 y.fr, .int .i64 y.tn, .int .i64 y.st, .int .i64 y.en, .int .i64 y.rt, .int .i64 y.rf, .int .i64 y.rn, .int .i64 y.rs, .int .i64 y.re, .int .i64 y.ro] := rfl
theorem textF_bound : ∀ (rows : List Bytes) (k : Int), (textF rows k).2.2 = 0 → (textF rows k).2.1 = 0 ∧ (textF rows k).1.length ≤ rows.length
  | [], k, _ => ⟨rfl, by simp [textF]⟩
  | r :: rs, k, h => by
    have ih := textF_bound rs (k + 1)
    simp only [textF] at h ⊢
    split at h
    · rename_i h0
      rw [if_pos h0]
      obtain ⟨h1, h2⟩ := ih h
      exact ⟨h1, by simp; omega⟩
    · rename_i h0
      rw [if_neg h0]
      split at h
      · rename_i h1
        rw [if_pos h1]
        rw [addF_code] at h
        obtain ⟨h2, h3⟩ := ih h
        refine ⟨by rw [addF_code]; exact h2, ?_⟩
        unfold addF
        rw [if_pos h]
        simp
        omega
      · rename_i h1
        exact absurd h h1
end Go.Proofs.YtggdomeeienjbaaDoor
