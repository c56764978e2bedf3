/- An argument that is a slice of flat structs, opened as a slice with its nil. No condition. -/
import Derived.Test.YtbhhkaaidhapbaaOpen
import Derived.Test.YtbhhkaaidhapbaaSlLib
namespace Go.Proofs.Ytbhhkaaidhapbaa
open Go.ChangeShapes Go.WideShapes Go.ChangeAt Go.RowKit Go.Sort
set_option linter.unusedSimpArgs false
set_option linter.unusedVariables false
variable {H : Type} {enc : TypeId × Value → H} {P : Program}
theorem open_rowsS {w : World} {base b0 : Nat} {r : Reach} {spare : Nat → Bool} {held : Bool} {t e : TypeId} {v : Value} {d : DataW H} {p : List MemPlace} (q : Nat) {K : Nat} (ht : P.underlying t = some (.slice e)) (hf : flatB P q e = true) (hK : P.cellsOf e = K) (hpos : 0 < K)
    (hv : Value.okWide P w r b0 t v) (h : DataW.Trod enc P w base spare held t v d p) :
    ∃ (A : Option Addr) (n c : Nat) (ns : List Int), v = .slice A n c ∧ Sl w w.heap.size K A n c (ns.map (Value.int .i64)) ∧ ns.length = n * K ∧ ∀ m ∈ ns, (Lit.int .i64 m).wf = true := by
  obtain ⟨A, n, c, ns, rfl, h1, h2, h3, h4, h5⟩ := open_rows q ht hf hK hpos hv h
  refine ⟨A, n, c, ns, rfl, ⟨h3, h1, h2, fun hA => ?_⟩, h4, h5⟩
  subst hA
  obtain ⟨fuel, hx⟩ := h
  rcases Go.Deep.open_slice ht hx with ⟨h0, _⟩ | ⟨a, len, cap, m, q', D, Pl, hcs, _⟩
  · have h0' : Value.slice none n c = .slice none 0 0 := by simpa [Value.cells] using h0
    injection h0'
  · simp [Value.cells] at hcs
end Go.Proofs.Ytbhhkaaidhapbaa
