/- Several texts of mine in one: Math, Ceil. No condition. -/
import Derived.Test.YtjkcjbcbnnpmfaaLib
import Derived.Test.YtjkcjbcbnnpmfaaChecked

/- Plain mathematics: quotients upwards, edges, when one is sent and there, the latest time. Nothing of any program. -/
namespace Go.Proofs.Ytjkcjbcbnnpmfaa

/-- a divided by b, upwards. -/
def cdiv (a b : Int) : Int := a / b + (if a % b = 0 then 0 else 1)

theorem cdiv_bounds {a b : Int} (ha : 0 ≤ a) (hb : 1 ≤ b) : 0 ≤ cdiv a b ∧ cdiv a b ≤ a ∧ a ≤ cdiv a b * b ∧ (cdiv a b - 1) * b < a + (if a = 0 then b else 0) ∧ (cdiv a b = 0 ↔ a = 0) := by
  have h0 : 0 ≤ a / b := Int.ediv_nonneg ha (by omega)
  have h1 : a / b ≤ a := Int.ediv_le_self _ ha
  have h2 := Int.emod_add_mul_ediv a b
  have h3 := Int.emod_nonneg a (show b ≠ 0 by omega)
  have h4 := Int.emod_lt_of_pos a (show 0 < b by omega)
  have h5 : a / b * b = b * (a / b) := Int.mul_comm _ _
  unfold cdiv
  split
  · rename_i hm
    rw [Int.add_zero]
    refine ⟨h0, h1, by rw [h5]; omega, ?_, ?_⟩
    · rw [Int.sub_mul, h5]
      split <;> omega
    · constructor
      · intro h; rw [h] at h2; omega
      · intro h; rw [h]; simp
  · rename_i hm
    refine ⟨by omega, ?_, ?_, ?_, ?_⟩
    · have : 2 ≤ b := by
        rcases Int.lt_or_le b 2 with h | h
        · have : b = 1 := by omega
          subst this
          omega
        · exact h
      have h6 : 2 * (a / b) ≤ b * (a / b) := Int.mul_le_mul_of_nonneg_right this h0
      omega
    · rw [Int.add_mul, h5]; omega
    · rw [show a / b + 1 - 1 = a / b by omega, h5]
      split <;> omega
    · constructor
      · intro h; omega
      · intro h; rw [h] at hm; simp at hm

theorem cdiv_le {a b c : Int} (ha : 0 ≤ a) (hab : a ≤ b) (hc : 1 ≤ c) : cdiv a c ≤ cdiv b c := by
  obtain ⟨h1, _, h3, h4, h5⟩ := cdiv_bounds ha hc
  obtain ⟨k1, _, k3, k4, k5⟩ := cdiv_bounds (Int.le_trans ha hab) hc
  rcases Int.lt_or_le (cdiv b c) (cdiv a c) with h | h
  · exfalso
    have h6 : cdiv b c * c ≤ (cdiv a c - 1) * c := Int.mul_le_mul_of_nonneg_right (by omega) (by omega)
    split at h4
    · rename_i h0
      have := h5.2 h0
      omega
    · omega
  · exact h

theorem cdiv_le_den {a c d : Int} (ha : 0 ≤ a) (hc : 1 ≤ c) (hcd : c ≤ d) : cdiv a d ≤ cdiv a c := by
  obtain ⟨h1, _, h3, h4, h5⟩ := cdiv_bounds ha hc
  obtain ⟨k1, _, k3, k4, k5⟩ := cdiv_bounds ha (show 1 ≤ d by omega)
  rcases Int.lt_or_le (cdiv a c) (cdiv a d) with h | h
  · exfalso
    have h6 : cdiv a c * d ≤ (cdiv a d - 1) * d := Int.mul_le_mul_of_nonneg_right (by omega) (by omega)
    have h7 : cdiv a c * c ≤ cdiv a c * d := Int.mul_le_mul_of_nonneg_left hcd h1
    split at k4
    · rename_i h0
      have := k5.2 h0
      omega
    · omega
  · exact h

end Go.Proofs.Ytjkcjbcbnnpmfaa

/- Contracts of quotients upwards (package num, and the document's answer). No condition. -/
namespace Go.Proofs.Ytjkcjbcbnnpmfaa
open Go.ChangeShapes Go.WideShapes Go.ChangeAt Go.RowKit Go.Sort
set_option linter.unusedSimpArgs false
set_option linter.unusedVariables false

def ceilB (a b : Int) : Bool := decide (0 ≤ a) && decide (1 ≤ b)
def ceilF (a b : Int) : Int := if ceilB a b then cdiv a b else 0

theorem ceil_yes {a b : Int} (ha : 0 ≤ a) (ha2 : a ≤ 9223372036854775807) (hb : 1 ≤ b) (w : World) :
    Calls Try.prog 51 #[.int .i64 a, .int .i64 b] w fun e w' => e = .returned (.tuple #[.int .i64 (cdiv a b), .bool true]) ∧ w = w' := by
  have hc := cdiv_bounds ha hb
  obtain ⟨hc1, hc2, _, _, _⟩ := hc
  have h1 : ¬ a < 0 := by omega
  have h2 : ¬ b < 1 := by omega
  have hz : (b == 0) = false := by simp; omega
  by_cases hm : a % b = 0
  · have e : cdiv a b = a / b := by unfold cdiv; rw [if_pos hm]; omega
    have E := Lib.hid e
    rw [e] at hc1 hc2
    have hm' : (a % b == 0) = true := by simp [hm]
    have hm2 : (a % b != 0) = false := by simp [hm]
    clear e hm
    go_enter Try.func51, Try.ntmps51
    go_wp2
    go_ret2
    exact ⟨by rw [E.out]; rfl, rfl⟩
  · have e : cdiv a b = a / b + 1 := by unfold cdiv; rw [if_neg hm]
    have E := Lib.hid e
    rw [e] at hc1 hc2
    have hm' : (a % b == 0) = false := by simp [hm]
    have hm2 : (a % b != 0) = true := by simp [hm]
    clear e hm
    go_enter Try.func51, Try.ntmps51
    go_wp2
    go_ret2
    exact ⟨by rw [E.out]; rfl, rfl⟩
theorem ceil_no {a b : Int} (h : ceilB a b = false) (w : World) :
    Calls Try.prog 51 #[.int .i64 a, .int .i64 b] w fun e w' => e = .returned (.tuple #[.int .i64 0, .bool false]) ∧ w = w' := by
  have h' : a < 0 ∨ b < 1 := by simp [ceilB] at h; omega
  clear h
  by_cases h1 : a < 0
  · go_enter Try.func51, Try.ntmps51
    go_wp2
    go_ret2
    exact ⟨rfl, rfl⟩
  · have h2 : b < 1 := by omega
    clear h'
    go_enter Try.func51, Try.ntmps51
    go_wp2
    go_ret2
    exact ⟨rfl, rfl⟩
theorem rceil_yes {a b : Int} (ha : 0 ≤ a) (ha2 : a ≤ 9223372036854775807) (hb : 1 ≤ b) (w : World) :
    Calls Try.prog 58 #[.int .i64 a, .int .i64 b] w fun e w' => e = .returned (.tuple #[.int .i64 (cdiv a b), .bool true]) ∧ w = w' := by
  have hc := cdiv_bounds ha hb
  obtain ⟨hc1, hc2, _, _, _⟩ := hc
  have h1 : ¬ a < 0 := by omega
  have h2 : ¬ b < 1 := by omega
  have hz : (b == 0) = false := by simp; omega
  by_cases hm : a % b = 0
  · have e : cdiv a b = a / b := by unfold cdiv; rw [if_pos hm]; omega
    have E := Lib.hid e
    rw [e] at hc1 hc2
    have hm' : (a % b == 0) = true := by simp [hm]
    have hm2 : (a % b != 0) = false := by simp [hm]
    clear e hm
    go_enter Try.func58, Try.ntmps58
    go_wp2
    go_ret2
    exact ⟨by rw [E.out]; rfl, rfl⟩
  · have e : cdiv a b = a / b + 1 := by unfold cdiv; rw [if_neg hm]
    have E := Lib.hid e
    rw [e] at hc1 hc2
    have hm' : (a % b == 0) = false := by simp [hm]
    have hm2 : (a % b != 0) = true := by simp [hm]
    clear e hm
    go_enter Try.func58, Try.ntmps58
    go_wp2
    go_ret2
    exact ⟨by rw [E.out]; rfl, rfl⟩
theorem rceil_no {a b : Int} (h : ceilB a b = false) (w : World) :
    Calls Try.prog 58 #[.int .i64 a, .int .i64 b] w fun e w' => e = .returned (.tuple #[.int .i64 0, .bool false]) ∧ w = w' := by
  have h' : a < 0 ∨ b < 1 := by simp [ceilB] at h; omega
  clear h
  by_cases h1 : a < 0
  · go_enter Try.func58, Try.ntmps58
    go_wp2
    go_ret2
    exact ⟨rfl, rfl⟩
  · have h2 : b < 1 := by omega
    clear h'
    go_enter Try.func58, Try.ntmps58
    go_wp2
    go_ret2
    exact ⟨rfl, rfl⟩
end Go.Proofs.Ytjkcjbcbnnpmfaa
