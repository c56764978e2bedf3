/- Several texts of mine in one: OrderMath, SymSwo. No condition. -/
import Derived.Test.YtbhhkaaidhapbaaGQ2
import Derived.Test.YtbhhkaaidhapbaaSymSize
import Derived.Shelf.SlSortCmp.Insertion
namespace Go.Proofs.Ytbhhkaaidhapbaa
open Go.ChangeShapes Go.WideShapes Go.ChangeAt Go.RowKit Go.Sort
set_option linter.unusedSimpArgs false
set_option linter.unusedVariables false
def cmpL : List Int → List Int → Int
  | [], [] => 0
  | [], _ :: _ => -1
  | _ :: _, [] => 1
  | a :: t, b :: u => if cmpI a b = 0 then cmpL t u else cmpI a b
theorem cmpI_anti (a b : Int) : cmpI a b = - cmpI b a := by unfold cmpI; repeat' split
                                                            all_goals omega
theorem cmpI_range (a b : Int) : -1 ≤ cmpI a b ∧ cmpI a b ≤ 1 := by unfold cmpI; repeat' split
                                                                    all_goals omega
theorem cmpI_neg {a b : Int} : cmpI a b < 0 ↔ a < b := by unfold cmpI; repeat' split
                                                          all_goals omega
theorem cmpL_self : ∀ a, cmpL a a = 0
  | [] => rfl
  | x :: a => by rw [cmpL, if_pos (cmpI_eq x)]; exact cmpL_self a
theorem cmpL_zero : ∀ {a b}, cmpL a b = 0 → a = b
  | [], [], _ => rfl
  | [], _ :: _, h => by simp [cmpL] at h
  | _ :: _, [], h => by simp [cmpL] at h
  | x :: a, y :: b, h => by
    rw [cmpL] at h
    by_cases e : cmpI x y = 0
    · rw [if_pos e] at h
      rw [cmpI_zero.1 e, cmpL_zero h]
    · rw [if_neg e] at h; exact absurd h e
theorem cmpL_anti : ∀ a b, cmpL a b = - cmpL b a
  | [], [] => rfl
  | [], _ :: _ => rfl
  | _ :: _, [] => rfl
  | x :: a, y :: b => by
    rw [cmpL, cmpL]
    have h := cmpI_anti x y
    by_cases e : cmpI x y = 0
    · rw [if_pos e, if_pos (by omega)]; exact cmpL_anti a b
    · rw [if_neg e, if_neg (by omega)]; exact h
theorem cmpL_range : ∀ a b, -1 ≤ cmpL a b ∧ cmpL a b ≤ 1
  | [], [] => by simp [cmpL]
  | [], _ :: _ => by simp [cmpL]
  | _ :: _, [] => by simp [cmpL]
  | x :: a, y :: b => by
    rw [cmpL]
    split
    · exact cmpL_range a b
    · exact cmpI_range x y
theorem cmpL_trans : ∀ {a b c}, cmpL a b ≤ 0 → cmpL b c ≤ 0 → cmpL a c ≤ 0
  | [], _, [], _, _ => by simp [cmpL]
  | [], _, _ :: _, _, _ => by simp [cmpL]
  | _ :: _, [], _, h, _ => by simp [cmpL] at h
  | _ :: _, _ :: _, [], _, h => by simp [cmpL] at h
  | x :: a, y :: b, z :: c, h1, h2 => by
    rw [cmpL] at h1 h2 ⊢
    by_cases e1 : cmpI x y = 0
    · rw [if_pos e1] at h1
      rw [cmpI_zero.1 e1]
      by_cases e2 : cmpI y z = 0
      · rw [if_pos e2] at h2 ⊢; exact cmpL_trans h1 h2
      · rw [if_neg e2] at h2 ⊢; exact h2
    · rw [if_neg e1] at h1
      have l1 : x < y := cmpI_neg.1 (by omega)
      by_cases e2 : cmpI y z = 0
      · rw [← cmpI_zero.1 e2, if_neg e1]; exact h1
      · rw [if_neg e2] at h2
        have l2 : y < z := cmpI_neg.1 (by omega)
        have l3 : cmpI x z < 0 := cmpI_neg.2 (by omega)
        rw [if_neg (by omega)]; omega
/-- When it is there, how many hops, their IDs. -/
def keyR (t : Int) (d : List Hp) : List Int := t :: (d.length : Int) :: d.map Hp.id
theorem cmpH_key : ∀ (d d' : List Hp), cmpH d d' = cmpL (d.map Hp.id) (d'.map Hp.id)
  | [], [] => rfl
  | [], _ :: _ => rfl
  | _ :: _, [] => rfl
  | x :: d, y :: d' => by rw [cmpH, List.map_cons, List.map_cons, cmpL, cmpH_key d d']
theorem cmpR_key (t : Int) (d : List Hp) (t' : Int) (d' : List Hp) : cmpR t d t' d' = cmpL (keyR t d) (keyR t' d') := by
  unfold cmpR keyR
  rw [cmpL, cmpL, cmpH_key]
/-- Who goes on, or is there later, is behind. -/
theorem cmpR_longer (t u : Int) (d e : List Hp) (hu : 0 ≤ u) : cmpR t d (t + u) (d ++ e) = if u = 0 ∧ e = [] then 0 else -1 := by
  rw [cmpR_key]
  unfold keyR
  rw [cmpL, cmpL]
  by_cases h0 : u = 0
  · subst h0
    rw [if_pos (by rw [Int.add_zero]; exact cmpI_eq t)]
    cases e with
    | nil =>
      rw [List.append_nil, if_pos (cmpI_eq _), cmpL_self, if_pos ⟨rfl, rfl⟩]
    | cons y e =>
      have hl : (d.length : Int) < ((d ++ y :: e).length : Int) := by simp only [List.length_append, List.length_cons]; omega
      rw [if_neg (by have := cmpI_neg.2 hl; omega), cmpI_lt hl, if_neg (by simp)]
  · have hl : t < t + u := by omega
    rw [if_neg (by have := cmpI_neg.2 hl; omega), cmpI_lt hl, if_neg (fun h => h0 h.1)]
end Go.Proofs.Ytbhhkaaidhapbaa
namespace Go.Proofs.Ytbhhkaaidhapbaa
open Go.Sort Go.Shelf
set_option linter.unusedSimpArgs false
set_option linter.unusedVariables false
theorem swo_cmpL {α : Type} (key : α → List Int) (cf : α → α → Int) (h : ∀ x y, cf x y = cmpL (key x) (key y)) : Swo (ltOf cf) where
  asym a b hab := by
    have h1 : cf a b < 0 := of_decide_eq_true hab
    refine decide_eq_false fun h2 => ?_
    have h2' : cf b a < 0 := h2
    rw [h] at h1 h2'
    rw [cmpL_anti] at h1
    omega
  neg a b c hab hbc := by
    have h1 : ¬ cf a b < 0 := of_decide_eq_false hab
    have h2 : ¬ cf b c < 0 := of_decide_eq_false hbc
    refine decide_eq_false fun h3 => ?_
    have h3' : cf a c < 0 := h3
    rw [h] at h1 h2 h3'
    rw [cmpL_anti] at h1 h2 h3'
    have := cmpL_trans (a := key c) (b := key b) (c := key a) (by omega) (by omega)
    omega
theorem swo_cmpR {α : Type} (t : α → Int) (d : α → List Hp) (cf : α → α → Int) (h : ∀ x y, cf x y = cmpR (t x) (d x) (t y) (d y)) : Swo (ltOf cf) := swo_cmpL (fun x => keyR (t x) (d x)) cf fun x y => by rw [h, cmpR_key]
end Go.Proofs.Ytbhhkaaidhapbaa
