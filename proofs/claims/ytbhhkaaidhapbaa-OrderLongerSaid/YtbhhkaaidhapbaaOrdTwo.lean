/- Two routes, sorted: one, if they are at one place. No condition. -/
import Derived.Test.YtbhhkaaidhapbaaOrder9
import Derived.Test.YtbhhkaaidhapbaaOrderMath
namespace Go.Proofs.Ytbhhkaaidhapbaa
open Go.ChangeShapes Go.WideShapes Go.ChangeAt Go.RowKit Go.Sort
set_option linter.unusedSimpArgs false
set_option linter.unusedVariables false
theorem sortT_two (x y : Rt) : sortT [x, y] = if ltOf cfT y x = true then [y, x] else [x, y] := by
  unfold sortT Sort.insertionSort
  rw [Sort.insOuter.eq_def, if_pos (by simp), Sort.insOuter.eq_def, if_neg (by simp)]
  rw [Sort.insInner]
  by_cases h : ltOf cfT y x = true
  · simp [h, Sort.insInner, Sort.swp]
  · simp [h, Sort.insInner]
theorem compactT_two (x y : Rt) : (compactT [x, y]).length = if cfT y x = 0 then 1 else 2 := by
  unfold compactT
  simp [kpT, gT]
  by_cases h : cfT y x = 0 <;> simp [h]
theorem cfT_anti (x y : Rt) : cfT y x = - cfT x y := by
  unfold cfT
  rw [cmpR_key, cmpR_key]
  exact cmpL_anti _ _
theorem two_len (x y : Rt) (b : Bool) (h : decide (cfT x y = 0) = b) : (compactT (sortT [x, y])).length = (if b = true then 1 else 2) := by
  rw [sortT_two]
  have e := cfT_anti x y
  split
  · rw [compactT_two]; subst h; simp
  · rw [compactT_two]; subst h
    by_cases hz : cfT x y = 0
    · simp [hz, e]
    · have : cfT y x ≠ 0 := by omega
      simp [hz, this]
end Go.Proofs.Ytbhhkaaidhapbaa
