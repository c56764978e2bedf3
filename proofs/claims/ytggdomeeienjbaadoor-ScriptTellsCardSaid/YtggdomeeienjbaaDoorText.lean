
/- Contracts of num.Text and of the document's answer to it: a number's text, at all numbers. num.Text reads a table of the library's. -/
import Derived.Test.YtggdomeeienjbaaDoorChecked
import Derived.Test.YtggdomeeienjbaaDoorShelf
import Derived.Test.YtggdomeeienjbaaDoorLib
import Derived.Test.YtggdomeeienjbaaDoorWMath
import Derived.Lib.AppendIntMem
namespace Go.Proofs.YtggdomeeienjbaaDoor
open Go.ChangeShapes Go.WideShapes Go.ChangeAt Go.RowKit Go.Sort
set_option linter.unusedSimpArgs false
set_option linter.unusedVariables false


theorem nDigits_le {u : Nat} (k : Nat) (hk : 1 ≤ k) (h : u < 10 ^ k) : Lib.nDigits u ≤ k := by
  induction k generalizing u with
  | zero => omega
  | succ k ih =>
    by_cases hu : u < 10
    · rw [Lib.nDigits_small hu]; omega
    · rw [Lib.nDigits_big hu]
      have h2 : u / 10 < 10 ^ k := by
        rw [Nat.div_lt_iff_lt_mul (by omega)]
        rw [Nat.pow_succ] at h
        exact h
      rcases Nat.eq_zero_or_pos k with h0 | h0
      · subst h0
        simp at h
        omega
      · have := ih h0 h2
        omega
theorem itoa_len {n : Int} (h0 : -9223372036854775808 ≤ n) (h1 : n ≤ 9223372036854775807) : 1 ≤ (Lib.itoa n).length ∧ (Lib.itoa n).length ≤ 20 := by
  unfold Lib.itoa
  split
  · rw [List.length_cons, Lib.decDigits_length]
    have := nDigits_le 19 (by omega) (show n.natAbs < 10 ^ 19 by omega)
    omega
  · rw [Lib.decDigits_length]
    have := nDigits_le 19 (by omega) (show n.toNat < 10 ^ 19 by omega)
    have := Lib.nDigits_pos n.toNat
    omega

/-- The library's table of the powers of ten lies there. -/
def TenTab (w : World) : Prop := Lib.TabIs Tryd.prog w "internal/strconv.uint64pow10" .u64 Lib.pow10Tab
theorem TenTab.below {w w' : World} (h : TenTab w) (hb : Below w.heap.size w w') : TenTab w' := Lib.tabBelow_of_tabIs h _ hb
theorem below_grow (w : World) (k : Nat) (os : Array Obj) : Below w.heap.size w (grow (w.drewN k) os) := by
  refine ⟨rfl, rfl, rfl, by simp [grow], fun j hj => ?_⟩
  simp [grow, Array.getElem?_append, hj]

theorem text_any {n : Int} (h0 : -9223372036854775808 ≤ n) (h1 : n ≤ 9223372036854775807) (w : World) (ht : TenTab w) :
    Calls Tryd.prog 34 #[.int .i64 n] w fun e w' => e = .returned (.string (bs (Lib.itoa n))) ∧ Below w.heap.size w w' := by
  have HT := Lib.hid ht
  clear ht
  go_enter Tryd.func34, Tryd.ntmps34
  go_wp2_with fail
  refine (Tryd.strconv_Itoa n h0 h1 _ HT.out).mono ?_
  rintro e w1 ⟨rfl, k, os, rfl⟩
  go_wp2
  go_ret
  exact ⟨rfl, below_grow _ _ _⟩
end Go.Proofs.YtggdomeeienjbaaDoor
