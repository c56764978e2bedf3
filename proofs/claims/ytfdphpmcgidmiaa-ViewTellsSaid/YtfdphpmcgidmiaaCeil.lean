
/- Contracts of quotients upwards (package num, and the document's answer). No condition. -/
import Derived.Test.YtfdphpmcgidmiaaChecked
import Derived.Test.YtfdphpmcgidmiaaMath
namespace Go.Proofs.Ytfdphpmcgidmiaa
open Go.ChangeShapes Go.WideShapes Go.ChangeAt Go.RowKit Go.Sort
set_option linter.unusedSimpArgs false
set_option linter.unusedVariables false

def ceilB (a b : Int) : Bool := decide (0 ≤ a) && decide (1 ≤ b)
def ceilF (a b : Int) : Int := if ceilB a b then cdiv a b else 0

theorem ceil_yes {a b : Int} (ha : 0 ≤ a) (ha2 : a ≤ 9223372036854775807) (hb : 1 ≤ b) (w : World) :
    Calls Try.prog 34 #[.int .i64 a, .int .i64 b] w fun e w' => e = .returned (.tuple #[.int .i64 (cdiv a b), .bool true]) ∧ w = w' := by
  have hc := cdiv_bounds ha hb
  obtain ⟨hc1, hc2, _, _, _⟩ := hc
  have h1 : ¬ a < 0 := by omega
  have h2 : ¬ b < 1 := by omega
  have hz : (b == 0) = false := by simp; omega
  by_cases hm : a % b = 0
  · have e : cdiv a b = a / b := by unfold cdiv; rw [if_pos hm]; omega
    have E := Lib.hid e
    rw [e] at hc1 hc2
    have hm' : (a % b == 0) = true := by simp [hm]
    have hm2 : (a % b != 0) = false := by simp [hm]
    clear e hm
    go_enter Try.func34, Try.ntmps34
    go_wp2
    go_ret2
    exact ⟨by rw [E.out]; rfl, rfl⟩
  · have e : cdiv a b = a / b + 1 := by unfold cdiv; rw [if_neg hm]
    have E := Lib.hid e
    rw [e] at hc1 hc2
    have hm' : (a % b == 0) = false := by simp [hm]
    have hm2 : (a % b != 0) = true := by simp [hm]
    clear e hm
    go_enter Try.func34, Try.ntmps34
    go_wp2
    go_ret2
    exact ⟨by rw [E.out]; rfl, rfl⟩
theorem ceil_no {a b : Int} (h : ceilB a b = false) (w : World) :
    Calls Try.prog 34 #[.int .i64 a, .int .i64 b] w fun e w' => e = .returned (.tuple #[.int .i64 0, .bool false]) ∧ w = w' := by
  have h' : a < 0 ∨ b < 1 := by simp [ceilB] at h; omega
  clear h
  by_cases h1 : a < 0
  · go_enter Try.func34, Try.ntmps34
    go_wp2
    go_ret2
    exact ⟨rfl, rfl⟩
  · have h2 : b < 1 := by omega
    clear h'
    go_enter Try.func34, Try.ntmps34
    go_wp2
    go_ret2
    exact ⟨rfl, rfl⟩
theorem rceil_yes {a b : Int} (ha : 0 ≤ a) (ha2 : a ≤ 9223372036854775807) (hb : 1 ≤ b) (w : World) :
    Calls Try.prog 39 #[.int .i64 a, .int .i64 b] w fun e w' => e = .returned (.tuple #[.int .i64 (cdiv a b), .bool true]) ∧ w = w' := by
  have hc := cdiv_bounds ha hb
  obtain ⟨hc1, hc2, _, _, _⟩ := hc
  have h1 : ¬ a < 0 := by omega
  have h2 : ¬ b < 1 := by omega
  have hz : (b == 0) = false := by simp; omega
  by_cases hm : a % b = 0
  · have e : cdiv a b = a / b := by unfold cdiv; rw [if_pos hm]; omega
    have E := Lib.hid e
    rw [e] at hc1 hc2
    have hm' : (a % b == 0) = true := by simp [hm]
    have hm2 : (a % b != 0) = false := by simp [hm]
    clear e hm
    go_enter Try.func39, Try.ntmps39
    go_wp2
    go_ret2
    exact ⟨by rw [E.out]; rfl, rfl⟩
  · have e : cdiv a b = a / b + 1 := by unfold cdiv; rw [if_neg hm]
    have E := Lib.hid e
    rw [e] at hc1 hc2
    have hm' : (a % b == 0) = false := by simp [hm]
    have hm2 : (a % b != 0) = true := by simp [hm]
    clear e hm
    go_enter Try.func39, Try.ntmps39
    go_wp2
    go_ret2
    exact ⟨by rw [E.out]; rfl, rfl⟩
theorem rceil_no {a b : Int} (h : ceilB a b = false) (w : World) :
    Calls Try.prog 39 #[.int .i64 a, .int .i64 b] w fun e w' => e = .returned (.tuple #[.int .i64 0, .bool false]) ∧ w = w' := by
  have h' : a < 0 ∨ b < 1 := by simp [ceilB] at h; omega
  clear h
  by_cases h1 : a < 0
  · go_enter Try.func39, Try.ntmps39
    go_wp2
    go_ret2
    exact ⟨rfl, rfl⟩
  · have h2 : b < 1 := by omega
    clear h'
    go_enter Try.func39, Try.ntmps39
    go_wp2
    go_ret2
    exact ⟨rfl, rfl⟩
end Go.Proofs.Ytfdphpmcgidmiaa
