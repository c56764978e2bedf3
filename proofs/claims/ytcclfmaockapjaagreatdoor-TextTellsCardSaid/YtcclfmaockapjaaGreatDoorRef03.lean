
/- Contracts of the document's answer for layer 3: it answers what package check answers, at all arguments. -/
import Derived.Test.YtcclfmaockapjaaGreatDoorCheck
namespace Go.Proofs.YtcclfmaockapjaaGreatDoor
open Go.ChangeShapes Go.WideShapes Go.ChangeAt Go.RowKit Go.Sort
set_option linter.unusedSimpArgs false
set_option linter.unusedVariables false

theorem ret_bool {a b : Bool} (h : a = b) : Ending.returned (.bool a) = .returned (.bool b) := by rw [h]

theorem rnode_any (n : Int) (w : World) :
    Calls Tryz.prog 99 #[.int .i64 n] w fun e w' => e = .returned (.bool (nodeB n)) ∧ w = w' := by
  by_cases h1 : 1 ≤ n <;> by_cases h2 : n ≤ 255 <;>
  · go_enter Tryz.func99, Tryz.ntmps99
    go_wp2
    go_ret
    exact ⟨by simp [nodeB, inB, h1, h2], rfl⟩

def pairB (fr tn st en : Int) : Bool := wayB fr tn && spanB st en
theorem pairB_spec {fr tn st en : Int} : pairB fr tn st en = true ↔ (1 ≤ fr ∧ fr ≤ 255) ∧ (1 ≤ tn ∧ tn ≤ 255) ∧ fr ≠ tn ∧ 0 ≤ st ∧ st < en ∧ en ≤ 2147483647 := by
  simp [pairB, wayB, nodeB, spanB, inB, and_assoc]

theorem pair_any (fr tn st en : Int) (w : World) :
    Calls Tryz.prog 89 #[.int .i64 fr, .int .i64 tn, .int .i64 st, .int .i64 en] w fun e w' => e = .returned (.bool (pairB fr tn st en)) ∧ w = w' := by
  go_enter Tryz.func89, Tryz.ntmps89
  go_wp2_with (go_at_call 99; refine (rnode_any _ _).mono ?_; rintro e w' ⟨rfl, rfl⟩)
  all_goals go_ret
  all_goals refine ⟨ret_bool ?_, rfl⟩
  all_goals first
    | (simp [pairB, wayB, spanB, *]; done)
    | (simp [pairB, wayB, spanB, *]; omega)
theorem pair_is {fr tn st en : Int} (b : Bool) (h : pairB fr tn st en = b) (w : World) :
    Calls Tryz.prog 89 #[.int .i64 fr, .int .i64 tn, .int .i64 st, .int .i64 en] w fun e w' => e = .returned (.bool b) ∧ w = w' := h ▸ pair_any fr tn st en w
theorem rcontact_any (id fr tn st en ra : Int) (w : World) :
    Calls Tryz.prog 74 #[.agg #[.int .i64 id, .int .i64 fr, .int .i64 tn, .int .i64 st, .int .i64 en, .int .i64 ra]] w fun e w' => e = .returned (.bool (contactB id fr tn st en ra)) ∧ Below w.heap.size w w' := by
  by_cases hp : pairB fr tn st en = true
  · have HP := Lib.hid hp
    have Hp := Lib.hid (pairB_spec.1 hp)
    clear hp
    go_enter Tryz.func74, Tryz.ntmps74
    go_wp2_with (go_at_call 89; refine (pair_is true HP.out _).mono ?_; rintro e w' ⟨rfl, rfl⟩)
    all_goals go_ret
    all_goals refine ⟨ret_bool ?_, (Below.refl _ _).alloc (Nat.le_refl _) _⟩
    all_goals
      have hp := Hp.out
      rw [Bool.eq_iff_iff, contactB_spec]
      simp only [decide_eq_true_eq, Bool.false_eq_true, iff_true, false_iff, true_iff]
      omega
  · have HP := Lib.hid (show pairB fr tn st en = false by simpa using hp)
    rw [pairB_spec] at hp
    have Hp := Lib.hid hp
    clear hp
    go_enter Tryz.func74, Tryz.ntmps74
    go_wp2_with (go_at_call 89; refine (pair_is false HP.out _).mono ?_; rintro e w' ⟨rfl, rfl⟩)
    go_ret
    have hp := Hp.out
    exact ⟨ret_bool (by symm; rw [Bool.eq_false_iff, ne_eq, contactB_spec]; omega), (Below.refl _ _).alloc (Nat.le_refl _) _⟩
theorem rcontact_is {id fr tn st en ra : Int} (b : Bool) (h : contactB id fr tn st en ra = b) (w : World) :
    Calls Tryz.prog 74 #[.agg #[.int .i64 id, .int .i64 fr, .int .i64 tn, .int .i64 st, .int .i64 en, .int .i64 ra]] w fun e w' => e = .returned (.bool b) ∧ Below w.heap.size w w' := h ▸ rcontact_any id fr tn st en ra w
theorem rrange_any (fr tn st en ow : Int) (w : World) :
    Calls Tryz.prog 77 #[.agg #[.int .i64 fr, .int .i64 tn, .int .i64 st, .int .i64 en, .int .i64 ow]] w fun e w' => e = .returned (.bool (rangeB fr tn st en ow)) ∧ Below w.heap.size w w' := by
  by_cases hp : pairB fr tn st en = true
  · have HP := Lib.hid hp
    have Hp := Lib.hid (pairB_spec.1 hp)
    clear hp
    go_enter Tryz.func77, Tryz.ntmps77
    go_wp2_with (go_at_call 89; refine (pair_is true HP.out _).mono ?_; rintro e w' ⟨rfl, rfl⟩)
    all_goals go_ret
    all_goals refine ⟨ret_bool ?_, (Below.refl _ _).alloc (Nat.le_refl _) _⟩
    all_goals
      have hp := Hp.out
      rw [Bool.eq_iff_iff, rangeB_spec]
      simp only [decide_eq_true_eq, Bool.false_eq_true, iff_true, false_iff, true_iff]
      omega
  · have HP := Lib.hid (show pairB fr tn st en = false by simpa using hp)
    rw [pairB_spec] at hp
    have Hp := Lib.hid hp
    clear hp
    go_enter Tryz.func77, Tryz.ntmps77
    go_wp2_with (go_at_call 89; refine (pair_is false HP.out _).mono ?_; rintro e w' ⟨rfl, rfl⟩)
    go_ret
    have hp := Hp.out
    exact ⟨ret_bool (by symm; rw [Bool.eq_false_iff, ne_eq, rangeB_spec]; omega), (Below.refl _ _).alloc (Nat.le_refl _) _⟩
end Go.Proofs.YtcclfmaockapjaaGreatDoor
