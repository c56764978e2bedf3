
/- Contracts of package hop: which edges are right, how long it takes, when it is sent and there, when to be ready at the latest: at all arguments. They make new memory alone. -/
import Derived.Test.YtfdphpmcgidmiaaCheck
import Derived.Test.YtfdphpmcgidmiaaCeil
import Derived.WalkLawsBesides
namespace Go.Proofs.Ytfdphpmcgidmiaa
open Go.ChangeShapes Go.WideShapes Go.ChangeAt Go.RowKit Go.Sort
set_option linter.unusedSimpArgs false
set_option linter.unusedVariables false

structure Ed where
  id : Int
  fr : Int
  tn : Int
  op : Int
  en : Int
  ra : Int
  ow : Int
  ro : Int
def Ed.ok (e : Ed) : Bool := inB e.id 1 1048576 && nodeB e.fr && nodeB e.tn && e.fr != e.tn && inB e.op 0 1099511627776 && inB e.en 1 2147483647 && inB e.ra 1 2147483647 && inB e.ow 0 2147483647 && inB e.ro 0 4611686018427387904
theorem Ed.ok_spec {e : Ed} : e.ok = true ↔ (1 ≤ e.id ∧ e.id ≤ 1048576) ∧ (1 ≤ e.fr ∧ e.fr ≤ 255) ∧ (1 ≤ e.tn ∧ e.tn ≤ 255) ∧ e.fr ≠ e.tn ∧ (0 ≤ e.op ∧ e.op ≤ 1099511627776) ∧ (1 ≤ e.en ∧ e.en ≤ 2147483647) ∧ (1 ≤ e.ra ∧ e.ra ≤ 2147483647) ∧ (0 ≤ e.ow ∧ e.ow ≤ 2147483647) ∧ (0 ≤ e.ro ∧ e.ro ≤ 4611686018427387904) := by
  simp [Ed.ok, nodeB, inB, and_assoc]
def Ed.asks (e : Ed) (t size : Int) : Bool := e.ok && inB t 0 1099511627776 && inB size 0 1099511627775
theorem Ed.asks_spec {e : Ed} {t size : Int} : e.asks t size = true ↔ e.ok = true ∧ (0 ≤ t ∧ t ≤ 1099511627776) ∧ (0 ≤ size ∧ size ≤ 1099511627775) := by
  simp [Ed.asks, inB, and_assoc]
def Ed.takes (e : Ed) (size : Int) : Int := if e.asks 0 size = true then cdiv size e.ra else 0
def Ed.pass (e : Ed) (t size : Int) : Option (Int × Int) :=
  if e.asks t size = true ∧ size ≤ e.ro ∧ max t e.op < e.en ∧ max t e.op + cdiv size e.ra ≤ e.en then some (max t e.op, max t e.op + cdiv size e.ra + e.ow) else none
def Ed.last (e : Ed) (b size : Int) : Int := min (min (e.en - 1) (e.en - cdiv size e.ra)) (b - cdiv size e.ra - e.ow)
def Ed.latest (e : Ed) (b size : Int) : Option Int :=
  if e.asks b size = true ∧ size ≤ e.ro ∧ e.op ≤ e.last b size then some (e.last b size) else none

theorem hright_any (id fr tn op en ra ow ro : Int) (w : World) :
    Calls Try.prog 27 #[.agg #[.int .i64 id, .int .i64 fr, .int .i64 tn, .int .i64 op, .int .i64 en, .int .i64 ra, .int .i64 ow, .int .i64 ro]] w fun e w' => e = .returned (.bool (Ed.ok ⟨id, fr, tn, op, en, ra, ow, ro⟩)) ∧ Below w.heap.size w w' := by
  go_enter Try.func27, Try.ntmps27
  go_wp2_with (first | (go_at_call 48; (with_reducible refine Calls.mono (in_any _ _ _ _) ?_); rintro e w1 ⟨rfl, rfl⟩) | (go_at_call 55; (with_reducible refine Calls.mono (node_any _ _) ?_); rintro e w1 ⟨rfl, rfl⟩))
  all_goals go_ret
  all_goals exact ⟨by simp [Ed.ok, *], (Below.refl _ _).alloc (Nat.le_refl _) _⟩
theorem hright_is {id fr tn op en ra ow ro : Int} (b : Bool) (h : Ed.ok ⟨id, fr, tn, op, en, ra, ow, ro⟩ = b) (w : World) :
    Calls Try.prog 27 #[.agg #[.int .i64 id, .int .i64 fr, .int .i64 tn, .int .i64 op, .int .i64 en, .int .i64 ra, .int .i64 ow, .int .i64 ro]] w fun e w' => e = .returned (.bool b) ∧ Below w.heap.size w w' := h ▸ hright_any id fr tn op en ra ow ro w
theorem pass_some_spec {id fr tn op en ra ow ro : Int} {t size a b : Int} (h : Ed.pass ⟨id, fr, tn, op, en, ra, ow, ro⟩ t size = some (a, b)) :
    Ed.asks ⟨id, fr, tn, op, en, ra, ow, ro⟩ t size = true ∧ size ≤ ro ∧ max t op < en ∧ max t op + cdiv size ra ≤ en ∧ a = max t op ∧ b = max t op + cdiv size ra + ow := by
  unfold Ed.pass at h
  split at h
  · rename_i hc
    simp only [Option.some.injEq, Prod.mk.injEq] at h
    exact ⟨hc.1, hc.2.1, hc.2.2.1, hc.2.2.2, h.1.symm, h.2.symm⟩
  · cases h
theorem pass_none_spec {id fr tn op en ra ow ro : Int} {t size : Int} (h : Ed.pass ⟨id, fr, tn, op, en, ra, ow, ro⟩ t size = none) :
    ¬ (Ed.asks ⟨id, fr, tn, op, en, ra, ow, ro⟩ t size = true ∧ size ≤ ro ∧ max t op < en ∧ max t op + cdiv size ra ≤ en) := by
  unfold Ed.pass at h
  split at h
  · cases h
  · assumption
theorem ok_ints {id fr tn op en ra ow ro : Int} (h : Ed.ok ⟨id, fr, tn, op, en, ra, ow, ro⟩ = true) : (1 ≤ id ∧ id ≤ 1048576) ∧ (1 ≤ fr ∧ fr ≤ 255) ∧ (1 ≤ tn ∧ tn ≤ 255) ∧ fr ≠ tn ∧ (0 ≤ op ∧ op ≤ 1099511627776) ∧ (1 ≤ en ∧ en ≤ 2147483647) ∧ (1 ≤ ra ∧ ra ≤ 2147483647) ∧ (0 ≤ ow ∧ ow ≤ 2147483647) ∧ (0 ≤ ro ∧ ro ≤ 4611686018427387904) := Ed.ok_spec.1 h
end Go.Proofs.Ytfdphpmcgidmiaa
