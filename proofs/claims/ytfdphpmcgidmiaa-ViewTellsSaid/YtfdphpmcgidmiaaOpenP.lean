
/- An argument that is a struct of two slices of flat structs and of two ints (api.Plan), opened. No condition. -/
import Derived.Test.YtfdphpmcgidmiaaOpenR
import Derived.Lib.SmallJoins
namespace Go.Proofs.Ytfdphpmcgidmiaa
open Go.ChangeShapes Go.WideShapes Go.ChangeAt Go.RowKit Go.Sort
set_option linter.unusedSimpArgs false
set_option linter.unusedVariables false
variable {H : Type} {enc : TypeId × Value → H} {P : Program}
theorem open_plan {w : World} {base b0 : Nat} {r : Reach} {spare : Nat → Bool} {held : Bool} {t e0 e1 : TypeId} {f0 f1 f2 f3 : Field} {v : Value} {d : DataW H} {p : List MemPlace} (q : Nat) {K0 K1 : Nat} (hs : P.underlying t = some (.struct #[f0, f1, f2, f3]))
    (hfo : (f0.offset == 0 && P.cellsOf f0.type == 1 && f1.offset == 1 && P.cellsOf f1.type == 1 && f2.offset == 2 && P.cellsOf f2.type == 1 && f3.offset == 3 && P.cellsOf f3.type == 1 && P.cellsOf t == 4) = true)
    (ht0 : P.underlying f0.type = some (.slice e0)) (ht1 : P.underlying f1.type = some (.slice e1)) (hi2 : P.underlying f2.type = some (.int .i64)) (hi3 : P.underlying f3.type = some (.int .i64)) (hf0 : flatB P q e0 = true) (hf1 : flatB P q e1 = true) (hK0 : P.cellsOf e0 = K0) (hpos0 : 0 < K0) (hK1 : P.cellsOf e1 = K1) (hpos1 : 0 < K1)
    (hv : Value.okWide P w r b0 t v) (h : DataW.Trod enc P w base spare held t v d p) :
    ∃ (A : Option Addr) (n c : Nat) (ns : List Int) (B : Option Addr) (m k : Nat) (ms : List Int) (x y : Int), v = .agg #[.slice A n c, .slice B m k, .int .i64 x, .int .i64 y] ∧
      Sl w w.heap.size K0 A n c (ns.map (Value.int .i64)) ∧ ns.length = n * K0 ∧ (∀ u ∈ ns, (Lit.int .i64 u).wf = true) ∧
      Sl w w.heap.size K1 B m k (ms.map (Value.int .i64)) ∧ ms.length = m * K1 ∧ (∀ u ∈ ms, (Lit.int .i64 u).wf = true) ∧ (Lit.int .i64 x).wf = true ∧ (Lit.int .i64 y).wf = true := by
  simp only [Bool.and_eq_true, beq_iff_eq] at hfo
  obtain ⟨⟨⟨⟨⟨⟨⟨⟨o0, k0⟩, o1⟩, k1⟩, o2⟩, k2⟩, o3⟩, k3⟩, kt⟩ := hfo
  obtain ⟨cs, rfl, hsz⟩ := okWide_struct hs hv
  obtain ⟨fuel, hx⟩ := h
  obtain ⟨y0, y1, y2, y3, n, _, hl, t0, t1, t2, t3⟩ := Go.Joins.trod_struct4 hs hx
  rw [o0, k0] at t0
  rw [o1, k1] at t1
  rw [o2, k2] at t2
  rw [o3, k3] at t3
  obtain ⟨l⟩ := cs
  rw [kt] at hsz
  have hl2 : l.length = 4 := hsz
  match l, hl2 with
  | [c0, c1, c2, c3], _ =>
    change DataW.trod enc P w base spare held n f0.type [c0] = some y0 at t0
    change DataW.trod enc P w base spare held n f1.type [c1] = some y1 at t1
    change DataW.trod enc P w base spare held n f2.type [c2] = some y2 at t2
    change DataW.trod enc P w base spare held n f3.type [c3] = some y3 at t3
    obtain ⟨A, n0, c, ns, g1, g2, g3, g4⟩ := rows_of_trod q ht0 hf0 hK0 hpos0 t0
    obtain ⟨B, m, k, ms, j1, j2, j3, j4⟩ := rows_of_trod q ht1 hf1 hK1 hpos1 t1
    obtain ⟨x, h1, _, h3⟩ := DataW.trod_int hi2 t2
    obtain ⟨y, i1, _, i3⟩ := DataW.trod_int hi3 t3
    injection g1 with g1
    injection j1 with j1
    injection h1 with h1
    injection i1 with i1
    subst g1 j1 h1 i1
    exact ⟨A, n0, c, ns, B, m, k, ms, x, y, rfl, g2, g3, g4, j2, j3, j4, h3, i3⟩
end Go.Proofs.Ytfdphpmcgidmiaa
