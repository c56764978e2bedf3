/- What stays true of a ledger on which one contact is booked: for LedgerBounds. No condition. -/
import Derived.Test.YtejcjpfljcfibaaLedgerMath
namespace Go.Proofs.Ytejcjpfljcfibaa
open Go.ChangeShapes Go.WideShapes Go.ChangeAt Go.RowKit Go.Sort
set_option linter.unusedSimpArgs false
set_option linter.unusedVariables false
/-- A right ledger of at most that contact, each class of it within the volume. -/
def OneC (c : Ct) (l : List Bk) : Prop := rightB l = true ∧ (∀ x ∈ l, x.id = c.id) ∧ (rowB l c.id).ua ≤ volC c ∧ (rowB l c.id).ub ≤ volC c ∧ (rowB l c.id).uc ≤ volC c
theorem oneC_nil (c : Ct) : OneC c [] := by
  have := volC_ok c
  refine ⟨by decide +kernel, by simp, ?_, ?_, ?_⟩ <;> (rw [rowB_none (by simp)]; simp; omega)
theorem oneC_len {c : Ct} {l : List Bk} (h : OneC c l) : l.length ≤ 1 := by
  obtain ⟨hr, hi, _⟩ := h
  have hs := right_sort hr
  cases hl : l with
  | nil => simp
  | cons a t =>
    cases ht : t with
    | nil => simp
    | cons b t2 =>
      exfalso
      subst hl
      subst ht
      have h1 := hi a (by simp)
      have h2 := hi b (by simp)
      have := (List.pairwise_cons.1 hs).1 b (by simp)
      omega
theorem more_one {d : List Bk} {id : Int} {y : Bk} (hs : SortB d) (hi : ∀ x ∈ d, x.id = id) (hy : y.id = id) : ∀ x ∈ moreB d id y, x.id = id := fun x hx => by
  rcases (more_mem hs).1 hx with ⟨_, rfl⟩ | ⟨h1, _⟩
  · exact hy
  · exact hi x h1
theorem oneC_book {c : Ct} {l : List Bk} (cl s : Int) (h : OneC c l) : OneC c (bookL l c cl s) := by
  obtain ⟨hr, hi, h1, h2, h3⟩ := h
  have hr2 := book_right (c := c) (cl := cl) (sz := s) hr
  have hrow := book_row (c := c) (cl := cl) (sz := s) hr c.id
  cases hb : bookB l c cl s
  · have : bookL l c cl s = l := by unfold bookL; rw [if_neg (by rw [hb]; simp)]
    rw [this]
    exact ⟨hr, hi, h1, h2, h3⟩
  · obtain ⟨_, f2, f3, f4, f5⟩ := book_facts hr hb
    have hge := back_ge (right_ok hr c.id) f2
    rw [hb] at hrow
    simp only [true_and, if_true] at hrow
    refine ⟨hr2, ?_, ?_⟩
    · unfold bookL
      rw [if_pos hb]
      exact more_one (right_sort hr) hi (by rw [bump_id, rowB_id (right_sort hr)])
    · rw [hrow]
      generalize rowB l c.id = x at *
      have hc3 : getU x cl + s ≤ volC c ∨ s = 0 := by omega
      clear hrow f5
      rcases class_cases f2 with rfl | rfl | rfl
      · simp [bump, getU] at hc3 ⊢; omega
      · simp [bump, getU] at hc3 ⊢; omega
      · simp [bump, getU] at hc3 ⊢; omega
theorem oneC_rel {c : Ct} {l : List Bk} (cl s : Int) (h : OneC c l) : OneC c (relL l c.id cl s) := by
  obtain ⟨hr, hi, h1, h2, h3⟩ := h
  have hr2 := rel_right (id := c.id) (cl := cl) (sz := s) hr
  have hrow := rel_row (id := c.id) (cl := cl) (sz := s) hr c.id
  cases hb : relB l c.id cl s
  · have : relL l c.id cl s = l := by unfold relL; rw [if_neg (by rw [hb]; simp)]
    rw [this]
    exact ⟨hr, hi, h1, h2, h3⟩
  · obtain ⟨f2, f3, f4⟩ := rel_facts hb
    rw [hb] at hrow
    simp only [true_and, if_true] at hrow
    refine ⟨hr2, ?_, ?_⟩
    · unfold relL
      rw [if_pos hb]
      exact more_one (right_sort hr) hi (by rw [bump_id, rowB_id (right_sort hr)])
    · rw [hrow]
      generalize rowB l c.id = x at *
      rcases class_cases f2 with rfl | rfl | rfl
      · simp [bump] ; omega
      · simp [bump] ; omega
      · simp [bump] ; omega
theorem oneC_rooms {c : Ct} {l : List Bk} (h : OneC c l) (hok : okU (rowB l c.id)) : roomF c (rowB l c.id) 0 ≤ volC c - (rowB l c.id).ua ∧ roomF c (rowB l c.id) 1 ≤ volC c - (rowB l c.id).ub ∧ roomF c (rowB l c.id) 2 = volC c - (rowB l c.id).uc ∧ roomF c (rowB l c.id) 0 ≤ roomF c (rowB l c.id) 1 ∧ roomF c (rowB l c.id) 1 ≤ roomF c (rowB l c.id) 2 := by
  obtain ⟨_, _, h1, h2, h3⟩ := h
  generalize rowB l c.id = x at *
  have hv := volC_ok c
  obtain ⟨a0, a1, b0, b1, c0, c1⟩ := hok
  have e0 : inB 0 0 2 = true := by decide +kernel
  have e1 : inB 1 0 2 = true := by decide +kernel
  have e2 : inB 2 0 2 = true := by decide +kernel
  have g0 : backF x 0 = capAdd (capAdd (capAdd 0 x.ua) x.ub) x.uc := by simp [backF]
  have g1 : backF x 1 = capAdd (capAdd 0 x.ub) x.uc := by simp [backF]
  have g2 : backF x 2 = capAdd 0 x.uc := by simp [backF]
  unfold roomF
  rw [if_pos e0, if_pos e1, if_pos e2, g0, g1, g2]
  unfold capAdd
  omega
end Go.Proofs.Ytejcjpfljcfibaa
