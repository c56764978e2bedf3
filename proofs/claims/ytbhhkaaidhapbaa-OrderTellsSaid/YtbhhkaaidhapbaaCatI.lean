/- slices.Concat, Grow at ints. No condition but on sizes. -/
import Derived.Test.YtbhhkaaidhapbaaSlHp
namespace Go.Proofs.Ytbhhkaaidhapbaa
open Go.ChangeShapes Go.WideShapes Go.ChangeAt Go.RowKit Go.Sort
set_option linter.unusedSimpArgs false
set_option linter.unusedVariables false
theorem infoIq : (Try.prog.info? 3).map (fun i => (i.zero, i.size, i.bytes)) = some (some (.int .i64 0), 1, 8) := by kernel_rfl
theorem ints_oneq (l : List Int) : ∀ u ∈ l.map (Value.int .i64), u.oneCell' = true := by
  intro u hu
  obtain ⟨x, _, rfl⟩ := List.mem_map.1 hu
  rfl
/-- Lists, one behind the other. -/
def catIq (d : Nat → List Int) : Nat → List Int
  | 0 => []
  | k + 1 => catIq d k ++ d k
theorem catIq_le (d : Nat → List Int) : ∀ {k m : Nat}, k ≤ m → (catIq d k).length ≤ (catIq d m).length
  | k, 0, h => by
    obtain rfl : k = 0 := by omega
    exact Nat.le_refl _
  | k, m + 1, h => by
    by_cases e : k = m + 1
    · subst e; exact Nat.le_refl _
    · have := catIq_le d (k := k) (m := m) (by omega)
      simp only [catIq, List.length_append]
      omega
end Go.Proofs.Ytbhhkaaidhapbaa
