/- What is right stays right: RangesRight. No condition. -/
import Derived.Test.YtglhembdlipccaaRows
import Derived.Test.YtglhembdlipccaaRangesAct
import Derived.Test.YtglhembdlipccaaTyAt
namespace Go.Proofs.Ytglhembdlipccaa
open Go.ChangeShapes Go.WideShapes Go.ChangeAt Go.RowKit Go.Sort
set_option linter.unusedSimpArgs false
set_option linter.unusedVariables false
/-- All ahead of j in e are ahead of all from k on in d. -/
def Ahead (d e : List Rg) (j k : Nat) : Prop := ∀ j', j' < j → ∀ k', k ≤ k' → k' < d.length → ltR (gRg e j') (gRg d k')
theorem ahead_step {d e : List Rg} {j k : Nat} (hs : SortR d) (hk : k < d.length) (h : Ahead d e j k) (hc : cmpR (gRg e j) (gRg d k) < 0) : Ahead d e (j + 1) k := by
  intro j' hj' k' hk' hkd
  by_cases e1 : j' = j
  · subst e1
    have hl : ltR (gRg e j') (gRg d k) := by
      rcases cmpR_spec (gRg e j') (gRg d k) with ⟨hl, _⟩ | ⟨_, _, _, e⟩ | ⟨_, e⟩
      · exact hl
      · omega
      · omega
    by_cases e2 : k = k'
    · subst e2; exact hl
    · exact ltR_trans hl (hs.at_ (by omega : k < k') hkd).1
  · exact h j' (by omega) k' hk' hkd
theorem ahead_more {d e : List Rg} {j k : Nat} (h : Ahead d e j k) : Ahead d e j (k + 1) := fun j' hj k' hk hkd => h j' hj k' (by omega) hkd
/-- Where the search stops, the one that is sought stands. -/
theorem ahead_stop {d e : List Rg} {j k : Nat} (hs : SortR e) (hk : k < d.length) (h : Ahead d e j k) (hm : gRg d k ∈ e) (hst : j < e.length → 0 ≤ cmpR (gRg e j) (gRg d k)) : j < e.length ∧ gRg e j = gRg d k := by
  obtain ⟨q, hq, hqe⟩ := mem_gRg hm
  have hjq : j ≤ q := by
    by_cases hlt : q < j
    · have := h q hlt k (Nat.le_refl _) hk
      rw [hqe] at this
      unfold ltR at this
      omega
    · omega
  have hjl : j < e.length := by omega
  refine ⟨hjl, ?_⟩
  by_cases hlt : j < q
  · have h1 := (hs.at_ hlt hq).1
    rw [hqe] at h1
    have h2 := hst hjl
    rcases cmpR_spec (gRg e j) (gRg d k) with ⟨_, e1⟩ | ⟨_, _, _, _⟩ | ⟨h3, _⟩
    · omega
    · unfold ltR at h1; omega
    · unfold ltR at h1 h3; omega
  · have : j = q := by omega
    rw [this, hqe]
end Go.Proofs.Ytglhembdlipccaa
