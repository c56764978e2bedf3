
/- Plain mathematics: quotients upwards, edges, when one is sent and there, the latest time. Nothing of any program. -/
import Derived.Test.YtfdphpmcgidmiaaLib
namespace Go.Proofs.Ytfdphpmcgidmiaa

/-- a divided by b, upwards. -/
def cdiv (a b : Int) : Int := a / b + (if a % b = 0 then 0 else 1)

theorem cdiv_bounds {a b : Int} (ha : 0 ≤ a) (hb : 1 ≤ b) : 0 ≤ cdiv a b ∧ cdiv a b ≤ a ∧ a ≤ cdiv a b * b ∧ (cdiv a b - 1) * b < a + (if a = 0 then b else 0) ∧ (cdiv a b = 0 ↔ a = 0) := by
  have h0 : 0 ≤ a / b := Int.ediv_nonneg ha (by omega)
  have h1 : a / b ≤ a := Int.ediv_le_self _ ha
  have h2 := Int.emod_add_mul_ediv a b
  have h3 := Int.emod_nonneg a (show b ≠ 0 by omega)
  have h4 := Int.emod_lt_of_pos a (show 0 < b by omega)
  have h5 : a / b * b = b * (a / b) := Int.mul_comm _ _
  unfold cdiv
  split
  · rename_i hm
    rw [Int.add_zero]
    refine ⟨h0, h1, by rw [h5]; omega, ?_, ?_⟩
    · rw [Int.sub_mul, h5]
      split <;> omega
    · constructor
      · intro h; rw [h] at h2; omega
      · intro h; rw [h]; simp
  · rename_i hm
    refine ⟨by omega, ?_, ?_, ?_, ?_⟩
    · have : 2 ≤ b := by
        rcases Int.lt_or_le b 2 with h | h
        · have : b = 1 := by omega
          subst this
          omega
        · exact h
      have h6 : 2 * (a / b) ≤ b * (a / b) := Int.mul_le_mul_of_nonneg_right this h0
      omega
    · rw [Int.add_mul, h5]; omega
    · rw [show a / b + 1 - 1 = a / b by omega, h5]
      split <;> omega
    · constructor
      · intro h; omega
      · intro h; rw [h] at hm; simp at hm

theorem cdiv_le {a b c : Int} (ha : 0 ≤ a) (hab : a ≤ b) (hc : 1 ≤ c) : cdiv a c ≤ cdiv b c := by
  obtain ⟨h1, _, h3, h4, h5⟩ := cdiv_bounds ha hc
  obtain ⟨k1, _, k3, k4, k5⟩ := cdiv_bounds (Int.le_trans ha hab) hc
  rcases Int.lt_or_le (cdiv b c) (cdiv a c) with h | h
  · exfalso
    have h6 : cdiv b c * c ≤ (cdiv a c - 1) * c := Int.mul_le_mul_of_nonneg_right (by omega) (by omega)
    split at h4
    · rename_i h0
      have := h5.2 h0
      omega
    · omega
  · exact h

theorem cdiv_le_den {a c d : Int} (ha : 0 ≤ a) (hc : 1 ≤ c) (hcd : c ≤ d) : cdiv a d ≤ cdiv a c := by
  obtain ⟨h1, _, h3, h4, h5⟩ := cdiv_bounds ha hc
  obtain ⟨k1, _, k3, k4, k5⟩ := cdiv_bounds ha (show 1 ≤ d by omega)
  rcases Int.lt_or_le (cdiv a c) (cdiv a d) with h | h
  · exfalso
    have h6 : cdiv a c * d ≤ (cdiv a d - 1) * d := Int.mul_le_mul_of_nonneg_right (by omega) (by omega)
    have h7 : cdiv a c * c ≤ cdiv a c * d := Int.mul_le_mul_of_nonneg_left hcd h1
    split at k4
    · rename_i h0
      have := k5.2 h0
      omega
    · omega
  · exact h

end Go.Proofs.Ytfdphpmcgidmiaa
