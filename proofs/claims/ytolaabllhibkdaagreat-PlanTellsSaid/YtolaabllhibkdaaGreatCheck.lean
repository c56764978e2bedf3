/- Contracts of num.In, num.Clamp, num.Ceil and package check: what they return, at all arguments; they make new memory alone. -/
import Derived.Test.YtolaabllhibkdaaGreatChecked
import Derived.Test.YtolaabllhibkdaaGreatGA
namespace Go.Proofs.YtolaabllhibkdaaGreat
open Go.ChangeShapes Go.WideShapes Go.ChangeAt Go.RowKit Go.Sort
set_option linter.unusedSimpArgs false
set_option linter.unusedVariables false

def inB (n lo hi:Int):Bool:=decide (lo ≤ n ∧ n ≤ hi)
def nodeB (n:Int):Bool:=inB n 1 255
def wayB (a b:Int):Bool:=nodeB a && nodeB b && a != b
def spanB (s e:Int):Bool:=decide (0 ≤ s) && decide (s < e) && decide (e ≤ 2147483647)
def contactB (id fr tn st en ra:Int):Bool:=inB id 1 1048576 && wayB fr tn && spanB st en && inB ra 1 2147483647
def rangeB (fr tn st en ow:Int):Bool:=wayB fr tn && spanB st en && inB ow 0 2147483647
theorem in_any (n lo hi:Int) (w:World) :
  Calls Tryz.prog 36 #[.int .i64 n,.int .i64 lo,.int .i64 hi] w fun e w' => e = .returned (.bool (inB n lo hi)) ∧ w = w':=by
 by_cases h1:lo ≤ n <;> by_cases h2:n ≤ hi <;>
 ·go_enter Tryz.func36,Tryz.ntmps36
  go_wp2
  go_ret
  exact ⟨by simp [inB,h1,h2],rfl⟩

theorem node_any (n:Int) (w:World) :
  Calls Tryz.prog 110 #[.int .i64 n] w fun e w' => e = .returned (.bool (nodeB n)) ∧ w = w':=by
 go_enter Tryz.func110,Tryz.ntmps110
 go_wp2_with (go_at_call 36; refine (in_any _ _ _ _).mono ?_; rintro e w' ⟨rfl,rfl⟩)
 go_ret
 exact ⟨rfl,rfl⟩
theorem way_any (a b:Int) (w:World) :
  Calls Tryz.prog 94 #[.int .i64 a,.int .i64 b] w fun e w' => e = .returned (.bool (wayB a b)) ∧ w = w':=by
 go_enter Tryz.func94,Tryz.ntmps94
 go_wp2_with (go_at_call 110; refine (node_any _ _).mono ?_; rintro e w' ⟨rfl,rfl⟩)
 all_goals go_ret
 all_goals exact ⟨by simp [wayB, *],rfl⟩
theorem span_any (a b:Int) (w:World) :
  Calls Tryz.prog 95 #[.int .i64 a,.int .i64 b] w fun e w' => e = .returned (.bool (spanB a b)) ∧ w = w':=by
 by_cases h1:0 ≤ a <;> by_cases h2:a < b <;> by_cases h3:b ≤ 2147483647 <;>
 ·go_enter Tryz.func95,Tryz.ntmps95
  go_wp2
  go_ret
  exact ⟨by simp [spanB,h1,h2,h3],rfl⟩
theorem contact_any (id fr tn st en ra:Int) (w:World) :
  Calls Tryz.prog 64 #[.agg #[.int .i64 id,.int .i64 fr,.int .i64 tn,.int .i64 st,.int .i64 en,.int .i64 ra]] w fun e w' => e = .returned (.bool (contactB id fr tn st en ra)) ∧ Below w.heap.size w w':=by
 go_enter Tryz.func64,Tryz.ntmps64
 go_wp2_with (first | (go_at_call 36; refine (in_any _ _ _ _).mono ?_; rintro e w' ⟨rfl,rfl⟩) | (go_at_call 94; refine (way_any _ _ _).mono ?_; rintro e w' ⟨rfl,rfl⟩) | (go_at_call 95; refine (span_any _ _ _).mono ?_; rintro e w' ⟨rfl,rfl⟩))
 all_goals go_ret
 all_goals exact ⟨by simp [contactB, *],(Below.refl _ _).alloc (Nat.le_refl _) _⟩
theorem range_any (fr tn st en ow:Int) (w:World) :
  Calls Tryz.prog 67 #[.agg #[.int .i64 fr,.int .i64 tn,.int .i64 st,.int .i64 en,.int .i64 ow]] w fun e w' => e = .returned (.bool (rangeB fr tn st en ow)) ∧ Below w.heap.size w w':=by
 go_enter Tryz.func67,Tryz.ntmps67
 go_wp2_with (first | (go_at_call 36; refine (in_any _ _ _ _).mono ?_; rintro e w' ⟨rfl,rfl⟩) | (go_at_call 94; refine (way_any _ _ _).mono ?_; rintro e w' ⟨rfl,rfl⟩) | (go_at_call 95; refine (span_any _ _ _).mono ?_; rintro e w' ⟨rfl,rfl⟩))
 all_goals go_ret
 all_goals exact ⟨by simp [rangeB, *],(Below.refl _ _).alloc (Nat.le_refl _) _⟩
theorem nodeB_spec {n:Int}:nodeB n = true ↔ 1 ≤ n ∧ n ≤ 255:=by
 simp [nodeB,inB]
theorem inB_spec {n lo hi:Int}:inB n lo hi = true ↔ lo ≤ n ∧ n ≤ hi:=by
 simp [inB]
theorem contactB_spec {id fr tn st en ra:Int}:contactB id fr tn st en ra = true ↔ (1 ≤ id ∧ id ≤ 1048576) ∧ (1 ≤ fr ∧ fr ≤ 255) ∧ (1 ≤ tn ∧ tn ≤ 255) ∧ fr ≠ tn ∧ 0 ≤ st ∧ st < en ∧ en ≤ 2147483647 ∧ 1 ≤ ra ∧ ra ≤ 2147483647:=by
 simp [contactB,wayB,nodeB,spanB,inB,and_assoc]
theorem rangeB_spec {fr tn st en ow:Int}:rangeB fr tn st en ow = true ↔ (1 ≤ fr ∧ fr ≤ 255) ∧ (1 ≤ tn ∧ tn ≤ 255) ∧ fr ≠ tn ∧ 0 ≤ st ∧ st < en ∧ en ≤ 2147483647 ∧ 0 ≤ ow ∧ ow ≤ 2147483647:=by
 simp [rangeB,wayB,nodeB,spanB,inB,and_assoc]
/-! The same with the result named, for a walk that wants it written out. -/
theorem in_is {n lo hi:Int} (b:Bool) (h:inB n lo hi = b) (w:World) :
  Calls Tryz.prog 36 #[.int .i64 n,.int .i64 lo,.int .i64 hi] w fun e w' => e = .returned (.bool b) ∧ w = w':=h ▸ in_any n lo hi w
theorem contact_is {id fr tn st en ra:Int} (b:Bool) (h:contactB id fr tn st en ra = b) (w:World) :
  Calls Tryz.prog 64 #[.agg #[.int .i64 id,.int .i64 fr,.int .i64 tn,.int .i64 st,.int .i64 en,.int .i64 ra]] w fun e w' => e = .returned (.bool b) ∧ Below w.heap.size w w':=h ▸ contact_any id fr tn st en ra w
theorem range_is {fr tn st en ow:Int} (b:Bool) (h:rangeB fr tn st en ow = b) (w:World) :
  Calls Tryz.prog 67 #[.agg #[.int .i64 fr,.int .i64 tn,.int .i64 st,.int .i64 en,.int .i64 ow]] w fun e w' => e = .returned (.bool b) ∧ Below w.heap.size w w':=h ▸ range_any fr tn st en ow w
end Go.Proofs.YtolaabllhibkdaaGreat
