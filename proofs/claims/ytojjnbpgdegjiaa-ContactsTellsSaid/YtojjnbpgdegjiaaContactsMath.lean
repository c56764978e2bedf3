/- Right tables of contacts: their order, who is found, one more, one less. No condition. -/
import Derived.Test.YtojjnbpgdegjiaaSmall06
namespace Go.Proofs.Ytojjnbpgdegjiaa
open Go.ChangeShapes Go.WideShapes Go.ChangeAt Go.RowKit Go.Sort
set_option linter.unusedSimpArgs false
set_option linter.unusedVariables false
theorem gCo_elem {d : List Co} {i : Nat} (h : i < d.length) : gCo d i = d[i] := gCo_eq h
theorem mem_gCo {d : List Co} {y : Co} (h : y ∈ d) : ∃ j, j < d.length ∧ gCo d j = y := by
  obtain ⟨j, hj, e⟩ := List.mem_iff_getElem.1 h
  exact ⟨j, hj, by rw [gCo_eq hj, e]⟩
theorem ltC_trans {a b c : Co} (h1 : ltC a b) (h2 : ltC b c) : ltC a c := by unfold ltC at *; omega
theorem cmpC_lt {a b : Co} : cmpC a b < 0 ↔ ltC a b := by
  rcases cmpC_spec a b with ⟨h, e⟩ | ⟨h1, h2, h3, h4, e⟩ | ⟨h, e⟩
  · rw [e]; exact ⟨fun _ => h, fun _ => by omega⟩
  · rw [e]; unfold ltC; omega
  · rw [e]; unfold ltC at *; omega
theorem right_step {d : List Co} (h : rightC d = true) {i : Nat} (hi : i < d.length) : okC (gCo d i) = true ∧ idIn (d.take i) (gCo d i).id = false ∧ (i ≠ 0 → ltC (gCo d (i - 1)) (gCo d i) ∧ overC (gCo d (i - 1)) (gCo d i) = false) := by
  have := (rightC_true.1 h).2 i hi
  unfold stepC at this
  simp only [Bool.and_eq_true, Bool.or_eq_true, Bool.not_eq_true', beq_iff_eq, decide_eq_true_eq] at this
  refine ⟨this.1.1, this.1.2, fun h0 => ?_⟩
  rcases this.2 with h1 | ⟨h1, h2⟩
  · exact absurd h1 h0
  · exact ⟨cmpC_lt.1 h1, h2⟩
theorem right_ok {d : List Co} (h : rightC d = true) : ∀ x ∈ d, okC x = true := fun x hx => by
  obtain ⟨j, hj, rfl⟩ := mem_gCo hx
  exact (right_step h hj).1
theorem right_lt {d : List Co} (h : rightC d = true) : ∀ (j i : Nat), i < j → j < d.length → ltC (gCo d i) (gCo d j)
  | 0, i, h1, _ => by omega
  | j + 1, i, h1, h2 => by
    have hs := ((right_step h h2).2.2 (by omega)).1
    rw [Nat.add_sub_cancel] at hs
    by_cases e : i = j
    · rw [e]; exact hs
    · exact ltC_trans (right_lt h j i (by omega) (by omega)) hs
theorem right_ids {d : List Co} (h : rightC d = true) {i j : Nat} (hij : i < j) (hj : j < d.length) : (gCo d i).id ≠ (gCo d j).id := by
  have h1 := (right_step h hj).2.1
  unfold idIn at h1
  rw [List.any_eq_false] at h1
  intro e
  exact h1 (gCo d i) (by rw [gCo_eq (by omega : i < d.length)]; exact List.mem_take_iff_getElem.2 ⟨i, by omega, rfl⟩) (by simp [e])
/-- Of two places that fit, none is left of the other. -/
theorem place_le {d : List Co} {r : Co} (h : rightC d = true) {i j : Nat} (hi : i ≤ d.length) (hj : j ≤ d.length) (h1 : i = 0 ∨ cmpC (gCo d (i - 1)) r < 0) (h2 : j = d.length ∨ 0 ≤ cmpC (gCo d j) r) : i ≤ j := by
  by_cases hlt : j < i
  · exfalso
    rcases h1 with h1 | h1
    · omega
    · rcases h2 with h2 | h2
      · omega
      · have l1 := cmpC_lt.1 h1
        by_cases e : j = i - 1
        · rw [← e] at h1; omega
        · have l2 := ltC_trans (right_lt h (i - 1) j (by omega) (by omega)) l1
          have := cmpC_lt.2 l2
          omega
  · omega
def insC (d : List Co) (i : Nat) (r : Co) : List Co := d.take i ++ [r] ++ d.drop i
theorem insC_length {d : List Co} {i : Nat} (r : Co) (hi : i ≤ d.length) : (insC d i r).length = d.length + 1 := by
  unfold insC
  simp only [List.length_append, List.length_take, List.length_drop, List.length_cons, List.length_nil]
  omega
theorem insC_filter {d : List Co} {i : Nat} (x : Co) (p : Co → Bool) (hd : ∀ y ∈ d, p y = true) (hx : p x = false) : (insC d i x).filter p = d := by
  unfold insC
  rw [List.filter_append, List.filter_append, List.filter_eq_self.2 (fun y hy => hd y (List.mem_of_mem_take hy)), List.filter_eq_self.2 (fun y hy => hd y (List.mem_of_mem_drop hy)), List.filter_cons, if_neg (by simp [hx])]
  simp
theorem may_ok {d : List Co} {r : Co} (hm : mayC d r = 0) : okC r = true ∧ d.length < 4096 ∧ (∀ y ∈ d, (y.id == r.id) = false) ∧ ∀ y ∈ d, overC y r = false := by
  unfold mayC at hm
  split at hm
  · cases hm
  · split at hm
    · cases hm
    · split at hm
      · cases hm
      · split at hm
        · cases hm
        · rename_i h1 h2 h3 h4
          refine ⟨by simpa using h1, by omega, fun y hy => ?_, fun y hy => ?_⟩
          · cases e : (y.id == r.id)
            · rfl
            · exact absurd (List.any_eq_true.2 ⟨y, hy, e⟩) h3
          · cases e : overC y r
            · rfl
            · exact absurd (List.any_eq_true.2 ⟨y, hy, e⟩) h4
theorem may_twice {d : List Co} {r : Co} {i : Nat} (hm : mayC d r = 0) (hi : i ≤ d.length) (hl : d.length < 4095) : mayC (insC d i r) r = 4 := by
  obtain ⟨h1, _, _, _⟩ := may_ok hm
  unfold mayC
  rw [if_neg (by rw [h1]; simp), insC_length r hi, if_neg (by omega), if_pos (by unfold insC; simp)]
end Go.Proofs.Ytojjnbpgdegjiaa
