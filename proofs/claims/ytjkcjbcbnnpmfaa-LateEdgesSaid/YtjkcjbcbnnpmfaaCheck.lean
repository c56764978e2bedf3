/- Contracts of num.In, num.Clamp, num.Ceil and package check: what they return, at all arguments; they make new memory alone. -/
import Derived.Test.YtjkcjbcbnnpmfaaChecked
import Derived.Test.YtjkcjbcbnnpmfaaLib
namespace Go.Proofs.Ytjkcjbcbnnpmfaa
open Go.ChangeShapes Go.WideShapes Go.ChangeAt Go.RowKit Go.Sort
set_option linter.unusedSimpArgs false
set_option linter.unusedVariables false

def inB (n lo hi : Int) : Bool := decide (lo ≤ n ∧ n ≤ hi)
def nodeB (n : Int) : Bool := inB n 1 255
def wayB (a b : Int) : Bool := nodeB a && nodeB b && a != b
def spanB (s e : Int) : Bool := decide (0 ≤ s) && decide (s < e) && decide (e ≤ 2147483647)
def contactB (id fr tn st en ra : Int) : Bool := inB id 1 1048576 && wayB fr tn && spanB st en && inB ra 1 2147483647
def rangeB (fr tn st en ow : Int) : Bool := wayB fr tn && spanB st en && inB ow 0 2147483647
def bundleB (fr tn si cl de : Int) : Bool := nodeB fr && nodeB tn && inB si 0 1099511627775 && inB cl 0 2 && inB de 0 1099511627776
def volumeF (id fr tn st en ra : Int) : Int := if contactB id fr tn st en ra = true then ra * (en - st) else 0

theorem in_any (n lo hi : Int) (w : World) :
    Calls Try.prog 20 #[.int .i64 n, .int .i64 lo, .int .i64 hi] w fun e w' => e = .returned (.bool (inB n lo hi)) ∧ w = w' := by
  by_cases h1 : lo ≤ n <;> by_cases h2 : n ≤ hi <;>
  · go_enter Try.func20, Try.ntmps20
    go_wp2
    go_ret
    exact ⟨by simp [inB, h1, h2], rfl⟩

theorem node_any (n : Int) (w : World) :
    Calls Try.prog 19 #[.int .i64 n] w fun e w' => e = .returned (.bool (nodeB n)) ∧ w = w' := by
  go_enter Try.func19, Try.ntmps19
  go_wp2_with (go_at_call 20; refine (in_any _ _ _ _).mono ?_; rintro e w' ⟨rfl, rfl⟩)
  go_ret
  exact ⟨rfl, rfl⟩
theorem nodeB_spec {n : Int} : nodeB n = true ↔ 1 ≤ n ∧ n ≤ 255 := by
  simp [nodeB, inB]
theorem inB_spec {n lo hi : Int} : inB n lo hi = true ↔ lo ≤ n ∧ n ≤ hi := by
  simp [inB]
theorem contactB_spec {id fr tn st en ra : Int} : contactB id fr tn st en ra = true ↔ (1 ≤ id ∧ id ≤ 1048576) ∧ (1 ≤ fr ∧ fr ≤ 255) ∧ (1 ≤ tn ∧ tn ≤ 255) ∧ fr ≠ tn ∧ 0 ≤ st ∧ st < en ∧ en ≤ 2147483647 ∧ 1 ≤ ra ∧ ra ≤ 2147483647 := by
  simp [contactB, wayB, nodeB, spanB, inB, and_assoc]
theorem rangeB_spec {fr tn st en ow : Int} : rangeB fr tn st en ow = true ↔ (1 ≤ fr ∧ fr ≤ 255) ∧ (1 ≤ tn ∧ tn ≤ 255) ∧ fr ≠ tn ∧ 0 ≤ st ∧ st < en ∧ en ≤ 2147483647 ∧ 0 ≤ ow ∧ ow ≤ 2147483647 := by
  simp [rangeB, wayB, nodeB, spanB, inB, and_assoc]
theorem bundleB_spec {fr tn si cl de : Int} : bundleB fr tn si cl de = true ↔ (1 ≤ fr ∧ fr ≤ 255) ∧ (1 ≤ tn ∧ tn ≤ 255) ∧ (0 ≤ si ∧ si ≤ 1099511627775) ∧ (0 ≤ cl ∧ cl ≤ 2) ∧ 0 ≤ de ∧ de ≤ 1099511627776 := by
  simp [bundleB, nodeB, inB, and_assoc]
theorem volume_bounds {id fr tn st en ra : Int} (h : contactB id fr tn st en ra = true) : 1 ≤ ra * (en - st) ∧ ra * (en - st) ≤ 4611686014132420609 := by
  obtain ⟨_, _, _, _, h1, h2, h3, h4, h5⟩ := contactB_spec.1 h
  constructor
  · exact Int.le_trans (by omega : (1 : Int) ≤ 1 * 1) (Int.mul_le_mul h4 (by omega) (by omega) (by omega))
  · exact Int.le_trans (Int.mul_le_mul h5 (by omega : en - st ≤ 2147483647) (by omega) (by omega)) (by omega)
/-! The same with the result named, for a walk that wants it written out. -/
theorem in_is {n lo hi : Int} (b : Bool) (h : inB n lo hi = b) (w : World) :
    Calls Try.prog 20 #[.int .i64 n, .int .i64 lo, .int .i64 hi] w fun e w' => e = .returned (.bool b) ∧ w = w' := h ▸ in_any n lo hi w
theorem node_is {n : Int} (b : Bool) (h : nodeB n = b) (w : World) :
    Calls Try.prog 19 #[.int .i64 n] w fun e w' => e = .returned (.bool b) ∧ w = w' := h ▸ node_any n w
end Go.Proofs.Ytjkcjbcbnnpmfaa
