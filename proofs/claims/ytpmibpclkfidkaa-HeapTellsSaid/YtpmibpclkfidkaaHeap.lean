/- Package heap: contracts of ahead, rise. -/
import Derived.Test.YtpmibpclkfidkaaChecked
import Derived.Test.YtpmibpclkfidkaaLib
import Derived.Test.YtpmibpclkfidkaaHeapMath
namespace Go.Proofs.Ytpmibpclkfidkaa
open Go.ChangeShapes Go.WideShapes Go.ChangeAt Go.RowKit Go.Sort Hp
set_option linter.unusedSimpArgs false
set_option linter.unusedVariables false

theorem ahead_any (a b : Int × Int) (w : World) :
    Calls Try.prog 21 #[.agg #[.int .i64 a.1, .int .i64 a.2], .agg #[.int .i64 b.1, .int .i64 b.2]] w fun e w' => e = .returned (.bool (ahd a b)) ∧ Below w.heap.size w w' := by
  obtain ⟨an, aa⟩ := a
  obtain ⟨bn, ba⟩ := b
  by_cases h1 : aa < ba
  · go_enter Try.func21, Try.ntmps21
    go_wp2
    all_goals go_ret
    all_goals exact ⟨by simp [ahd, h1], by (repeat (first | exact Below.refl _ _ | refine Below.alloc ?_ (by first | omega | (simp; done) | (simp; omega)) _ | refine Below.setCell ?_ (by first | omega | (simp; done) | (simp; omega)) _ | refine Below.drew ?_))⟩
  · by_cases h2 : aa = ba
    · subst h2
      by_cases h3 : an < bn
      all_goals
        go_enter Try.func21, Try.ntmps21
        go_wp2
        all_goals go_ret
        all_goals exact ⟨by simp [ahd, h3], by (repeat (first | exact Below.refl _ _ | refine Below.alloc ?_ (by first | omega | (simp; done) | (simp; omega)) _ | refine Below.setCell ?_ (by first | omega | (simp; done) | (simp; omega)) _ | refine Below.drew ?_))⟩
    · have h2' : (aa == ba) = false := by simpa using h2
      go_enter Try.func21, Try.ntmps21
      go_wp2
      all_goals go_ret
      all_goals exact ⟨by simp [ahd, h1, h2], by (repeat (first | exact Below.refl _ _ | refine Below.alloc ?_ (by first | omega | (simp; done) | (simp; omega)) _ | refine Below.setCell ?_ (by first | omega | (simp; done) | (simp; omega)) _ | refine Below.drew ?_))⟩
end Go.Proofs.Ytpmibpclkfidkaa
