
/- Contract of num.Parse: what number a text says, at all texts. No condition. -/
import Derived.Test.YtggdomeeienjbaaDoorChecked
import Derived.Test.YtggdomeeienjbaaDoorLib
import Derived.Laws.RangeAny
namespace Go.Proofs.YtggdomeeienjbaaDoor
open Go.ChangeShapes Go.WideShapes Go.ChangeAt Go.RowKit Go.Sort
set_option linter.unusedSimpArgs false
set_option linter.unusedVariables false

/-- What digits come to, unless one is none, or the number is too great. -/
def dfold : Int → List UInt8 → Option Int
  | n, [] => some n
  | n, c :: r => if 48 ≤ c.toNat ∧ c.toNat ≤ 57 ∧ n ≤ (9223372036854775807 - ((c.toNat : Int) - 48)) / 10 then dfold (n * 10 + ((c.toNat : Int) - 48)) r else none
def lead (l : List UInt8) : Bool := l.isEmpty || (decide (1 < l.length) && l.head? == some 48)
def parseF (l : List UInt8) (high : Int) : Option Int :=
  if lead l = true then none else match dfold 0 l with
    | some n => if n ≤ high then some n else none
    | none => none

theorem dfold_drop {s : ByteArray} {pos : Nat} (h : pos < s.size) (n : Int) :
    dfold n (s.data.toList.drop pos) = if 48 ≤ (s[pos]'h).toNat ∧ (s[pos]'h).toNat ≤ 57 ∧ n ≤ (9223372036854775807 - (((s[pos]'h).toNat : Int) - 48)) / 10 then dfold (n * 10 + (((s[pos]'h).toNat : Int) - 48)) (s.data.toList.drop (pos + 1)) else none := by
  have h' : pos < s.data.toList.length := by simpa using h
  rw [List.drop_eq_getElem_cons h']
  rfl

def numV (p : Option Int) : Value := match p with
  | some n => .tuple #[.int .i64 n, .bool true]
  | none => .tuple #[.int .i64 0, .bool false]
theorem ret_num_none {p : Option Int} (h : p = none) : Ending.returned (.tuple #[.int .i64 0, .bool false]) = .returned (numV p) := by rw [h]; rfl
theorem ret_num_some {p : Option Int} {n : Int} (h : p = some n) : Ending.returned (.tuple #[.int .i64 n, .bool true]) = .returned (numV p) := by rw [h]; rfl

theorem below_iter (w : World) (s : ByteArray) (pos : Nat) : Below w.heap.size w (w.iter s pos) := (Below.refl _ _).alloc (Nat.le_refl _) _

theorem lead_cases (s : ByteArray) : ((s.toList).isEmpty = true ∧ lead s.data.toList = true) ∨ ((s.toList).isEmpty = false ∧ ∃ h : 0 < s.size, ((1 : Int) < (s.size : Int) ∧ ((((s[0]'h).toNat : Int) == 48) = true) ∧ lead s.data.toList = true ∨
    (¬ (1 : Int) < (s.size : Int) ∨ (1 : Int) < (s.size : Int) ∧ ((((s[0]'h).toNat : Int) == 48) = false)) ∧ lead s.data.toList = false)) := by
  have e : s.toList = s.data.toList := by
    rw [ByteArray.toList_eq]
  have hz : s.size = s.data.toList.length := by simp
  cases hl : s.data.toList with
  | nil => exact .inl ⟨by rw [e, hl]; rfl, by rfl⟩
  | cons c r =>
    have h : 0 < s.size := by rw [hz, hl]; simp
    have hc : s[0]'h = c := by
      have : s.data.toList[0]'(by rw [← hz]; exact h) = c := by simp [hl]
      rw [← this]
      rfl
    refine .inr ⟨by rw [e, hl]; rfl, h, ?_⟩
    rw [hc, hz, hl]
    by_cases h1 : (1 : Int) < ((c :: r).length : Int)
    · by_cases h2 : c = 48
      · refine .inl ⟨h1, by rw [h2]; rfl, ?_⟩
        have : 1 < (c :: r).length := by omega
        simp [lead, h2] at this ⊢
        exact this
      · refine .inr ⟨.inr ⟨h1, ?_⟩, ?_⟩
        · rw [beq_eq_false_iff_ne]
          intro h3
          apply h2
          apply UInt8.toNat_inj.1
          exact Int.ofNat_inj.1 h3
        · simp [lead, h2]
    · refine .inr ⟨.inl h1, ?_⟩
      have : (c :: r).length ≤ 1 := by omega
      simp [lead] at this ⊢
      intro h3
      rw [this] at h3
      simp at h3

end Go.Proofs.YtggdomeeienjbaaDoor
