/- Contracts of num.Clamp and of the document's answers In and Clamp. No condition. -/
import Derived.Test.YtalneihabdgafaaDoorCheck
namespace Go.Proofs.YtalneihabdgafaaDoor
open Go.ChangeShapes Go.WideShapes Go.ChangeAt Go.RowKit Go.Sort
set_option linter.unusedSimpArgs false
set_option linter.unusedVariables false

def clampF (n lo hi : Int) : Int := if n < lo then lo else if hi < n then hi else n
theorem ret_int {a b : Int} (h : a = b) : Ending.returned (.int .i64 a) = .returned (.int .i64 b) := by rw [h]
theorem clamp_any (n lo hi : Int) (w : World) :
    Calls Tryd.prog 21 #[.int .i64 n, .int .i64 lo, .int .i64 hi] w fun e w' => e = .returned (.int .i64 (clampF n lo hi)) ∧ w = w' := by
  by_cases h1 : n < lo
  · have E := Lib.hid (show clampF n lo hi = lo by unfold clampF; rw [if_pos h1])
    go_enter Tryd.func21, Tryd.ntmps21
    go_wp2
    go_ret
    exact ⟨ret_int E.out.symm, rfl⟩
  · by_cases h2 : hi < n
    · have E := Lib.hid (show clampF n lo hi = hi by unfold clampF; rw [if_neg h1, if_pos h2])
      go_enter Tryd.func21, Tryd.ntmps21
      go_wp2
      go_ret
      exact ⟨ret_int E.out.symm, rfl⟩
    · have E := Lib.hid (show clampF n lo hi = n by unfold clampF; rw [if_neg h1, if_neg h2])
      go_enter Tryd.func21, Tryd.ntmps21
      go_wp2
      go_ret
      exact ⟨ret_int E.out.symm, rfl⟩
theorem clamp_is {n lo hi : Int} (v : Int) (h : clampF n lo hi = v) (w : World) :
    Calls Tryd.prog 21 #[.int .i64 n, .int .i64 lo, .int .i64 hi] w fun e w' => e = .returned (.int .i64 v) ∧ w = w' := h ▸ clamp_any n lo hi w
theorem rclamp_any (n lo hi : Int) (w : World) :
    Calls Tryd.prog 22 #[.int .i64 n, .int .i64 lo, .int .i64 hi] w fun e w' => e = .returned (.int .i64 (clampF n lo hi)) ∧ w = w' := by
  by_cases h1 : n < lo
  · have E := Lib.hid (show clampF n lo hi = lo by unfold clampF; rw [if_pos h1])
    go_enter Tryd.func22, Tryd.ntmps22
    go_wp2
    go_ret
    exact ⟨ret_int E.out.symm, rfl⟩
  · by_cases h2 : hi < n
    · have E := Lib.hid (show clampF n lo hi = hi by unfold clampF; rw [if_neg h1, if_pos h2])
      go_enter Tryd.func22, Tryd.ntmps22
      go_wp2
      go_ret
      exact ⟨ret_int E.out.symm, rfl⟩
    · have E := Lib.hid (show clampF n lo hi = n by unfold clampF; rw [if_neg h1, if_neg h2])
      go_enter Tryd.func22, Tryd.ntmps22
      go_wp2
      go_ret
      exact ⟨ret_int E.out.symm, rfl⟩
theorem rin_any (n lo hi : Int) (w : World) :
    Calls Tryd.prog 20 #[.int .i64 n, .int .i64 lo, .int .i64 hi] w fun e w' => e = .returned (.bool (inB n lo hi)) ∧ w = w' := by
  by_cases h1 : lo ≤ n <;> by_cases h2 : n ≤ hi <;>
  · go_enter Tryd.func20, Tryd.ntmps20
    go_wp2
    go_ret
    exact ⟨by simp [inB, h1, h2], rfl⟩
end Go.Proofs.YtalneihabdgafaaDoor
