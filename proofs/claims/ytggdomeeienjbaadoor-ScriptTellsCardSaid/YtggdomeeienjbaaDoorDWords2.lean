
/- Package direct: Words. It reads a table of the library's; it makes new memory alone. -/
import Derived.Test.YtggdomeeienjbaaDoorDWords
import Derived.Test.YtggdomeeienjbaaDoorDirect3
import Derived.Test.YtggdomeeienjbaaDoorNumMath
import Derived.Test.YtggdomeeienjbaaDoorFacts3
import Derived.Deep.DeepCutAuto
namespace Go.Proofs.YtggdomeeienjbaaDoor
open Go.ChangeShapes Go.WideShapes Go.ChangeAt Go.RowKit Go.Sort
set_option linter.unusedSimpArgs false
set_option linter.unusedVariables false
/-- The numbers of a directive, in order. -/
def numsD (d : Dr) : List Int :=
  if d.op = 1 ∧ d.kd = 1 then nums0 d
  else if d.op = 2 ∧ d.kd = 1 then nums1 d
  else if d.op = 3 ∧ d.kd = 1 then nums2 d
  else if d.op = 1 ∧ d.kd = 2 then nums3 d
  else if d.op = 2 ∧ d.kd = 2 then nums4 d
  else if d.op = 3 ∧ d.kd = 2 then nums5 d
  else []
/-- The words of a directive, if it is right. -/
def wordsD (d : Dr) : List Bytes := [gS opW d.op.toNat, gS kdW d.kd.toNat] ++ (numsD d).map Lib.itoa
theorem form_nums (d : Dr) (hk : knownD d = true) : ∃ f1 f2 f3 y, formV d.op d.kd = some (formOf f1 f2 f3) ∧ FormC d f1 f2 f3 (numsD d) y (mayD d) ∧ keepD d = withDo y d.op d.kd ∧ (d.op = 1 ∨ d.op = 2 ∨ d.op = 3) ∧ (d.kd = 1 ∨ d.kd = 2) := by
  by_cases c0 : d.op = 1 ∧ d.kd = 1
  · have e1 : numsD d = nums0 d := by unfold numsD; simp [c0]
    have e2 : mayD d = may0 d := by unfold mayD; simp [c0]
    refine ⟨41, 42, 43, fill0 d, by unfold formV; simp [c0], ?_, by unfold keepD; simp [c0], by omega, by omega⟩
    rw [e1, e2]
    exact formC0 d
  by_cases c1 : d.op = 2 ∧ d.kd = 1
  · have e1 : numsD d = nums1 d := by unfold numsD; simp [c1]
    have e2 : mayD d = may1 d := by unfold mayD; simp [c1]
    refine ⟨45, 46, 47, fill1 d, by unfold formV; simp [c1], ?_, by unfold keepD; simp [c1], by omega, by omega⟩
    rw [e1, e2]
    exact formC1 d
  by_cases c2 : d.op = 3 ∧ d.kd = 1
  · have e1 : numsD d = nums2 d := by unfold numsD; simp [c2]
    have e2 : mayD d = may2 d := by unfold mayD; simp [c2]
    refine ⟨49, 50, 51, fill2 d, by unfold formV; simp [c2], ?_, by unfold keepD; simp [c2], by omega, by omega⟩
    rw [e1, e2]
    exact formC2 d
  by_cases c3 : d.op = 1 ∧ d.kd = 2
  · have e1 : numsD d = nums3 d := by unfold numsD; simp [c3]
    have e2 : mayD d = may3 d := by unfold mayD; simp [c3]
    refine ⟨53, 54, 55, fill3 d, by unfold formV; simp [c3], ?_, by unfold keepD; simp [c3], by omega, by omega⟩
    rw [e1, e2]
    exact formC3 d
  by_cases c4 : d.op = 2 ∧ d.kd = 2
  · have e1 : numsD d = nums4 d := by unfold numsD; simp [c4]
    have e2 : mayD d = may4 d := by unfold mayD; simp [c4]
    refine ⟨57, 58, 59, fill4 d, by unfold formV; simp [c4], ?_, by unfold keepD; simp [c4], by omega, by omega⟩
    rw [e1, e2]
    exact formC4 d
  by_cases c5 : d.op = 3 ∧ d.kd = 2
  · have e1 : numsD d = nums5 d := by unfold numsD; simp [c5]
    have e2 : mayD d = may5 d := by unfold mayD; simp [c5]
    refine ⟨61, 62, 63, fill5 d, by unfold formV; simp [c5], ?_, by unfold keepD; simp [c5], by omega, by omega⟩
    rw [e1, e2]
    exact formC5 d
  exfalso
  unfold knownD formV at hk
  simp [c0, c1, c2, c3, c4, c5] at hk
theorem look_form0 {w : World} {b n : Nat} {S : Lit → Option Value} (hM : MapV w 76 b n S) (hS : IsS (fun _ => true) S) {x y : Int} (hx : (Lit.int .i64 x).wf = true) (hy : (Lit.int .i64 y).wf = true) (v : Value) (hv : formV x y = some v) :
    (Instr.lookup 73 (.map (some b)) (.agg #[.int .i64 x, .int .i64 y]) false).run Tryd.prog w = .ok v w := by
  have h := hM.look keyedD Tryd.underlying73 (zeroForm w) (keyOfD hx hy) (keyD_is _ _)
  rw [formS_at hS hx hy, hv] at h
  exact h
theorem right_nums {d : Dr} (h : rightD d = true) : ∀ m ∈ numsD d, 0 ≤ m ∧ m ≤ 2147483647 := by
  unfold rightD at h
  simp only [Bool.and_eq_true] at h
  have hm := h.2.1
  unfold mayD at hm
  unfold numsD
  by_cases c0 : d.op = 1 ∧ d.kd = 1
  · rw [if_pos c0] at hm ⊢
    unfold may0 contactB wayB nodeB spanB at hm
    simp only [inB, Bool.and_eq_true, decide_eq_true_eq] at hm
    intro m hx
    unfold nums0 at hx
    simp only [List.mem_cons, List.not_mem_nil, or_false] at hx
    omega
  rw [if_neg c0] at hm ⊢
  by_cases c1 : d.op = 2 ∧ d.kd = 1
  · rw [if_pos c1] at hm ⊢
    unfold may1  at hm
    simp only [inB, Bool.and_eq_true, decide_eq_true_eq] at hm
    intro m hx
    unfold nums1 at hx
    simp only [List.mem_cons, List.not_mem_nil, or_false] at hx
    omega
  rw [if_neg c1] at hm ⊢
  by_cases c2 : d.op = 3 ∧ d.kd = 1
  · rw [if_pos c2] at hm ⊢
    unfold may2  at hm
    simp only [inB, Bool.and_eq_true, decide_eq_true_eq] at hm
    intro m hx
    unfold nums2 at hx
    simp only [List.mem_cons, List.not_mem_nil, or_false] at hx
    omega
  rw [if_neg c2] at hm ⊢
  by_cases c3 : d.op = 1 ∧ d.kd = 2
  · rw [if_pos c3] at hm ⊢
    unfold may3 rangeB wayB nodeB spanB at hm
    simp only [inB, Bool.and_eq_true, decide_eq_true_eq] at hm
    intro m hx
    unfold nums3 at hx
    simp only [List.mem_cons, List.not_mem_nil, or_false] at hx
    omega
  rw [if_neg c3] at hm ⊢
  by_cases c4 : d.op = 2 ∧ d.kd = 2
  · rw [if_pos c4] at hm ⊢
    unfold may4 beginB nodeB at hm
    simp only [inB, Bool.and_eq_true, decide_eq_true_eq] at hm
    intro m hx
    unfold nums4 at hx
    simp only [List.mem_cons, List.not_mem_nil, or_false] at hx
    omega
  rw [if_neg c4] at hm ⊢
  by_cases c5 : d.op = 3 ∧ d.kd = 2
  · rw [if_pos c5] at hm ⊢
    unfold may5 beginB nodeB at hm
    simp only [inB, Bool.and_eq_true, decide_eq_true_eq] at hm
    intro m hx
    unfold nums5 at hx
    simp only [List.mem_cons, List.not_mem_nil, or_false] at hx
    omega
  rw [if_neg c5] at hm ⊢
  cases hm
end Go.Proofs.YtggdomeeienjbaaDoor
