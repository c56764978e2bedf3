/- Rows of routes by values: a place read, a first part. No condition. -/
import Derived.Test.YtbhhkaaidhapbaaOrdFew
namespace Go.Proofs.Ytbhhkaaidhapbaa
open Go.ChangeShapes Go.WideShapes Go.ChangeAt Go.RowKit Go.Sort
set_option linter.unusedSimpArgs false
set_option linter.unusedVariables false
theorem RL.take {w : World} {A : Option Addr} {n c m : Nat} {R : List Rt} (h : RL w (.slice A n c) R) (hm : m ≤ n) : RL w (.slice A m c) (R.take m) := by
  obtain ⟨A', n', c', L, e, h2, h3, h4, h5⟩ := h
  injection e with e1 e2 e3
  subst e1 e2 e3
  refine ⟨_, _, _, L.take m, rfl, by simp [h2, hm], by rw [List.map_take, h3], ?_, fun x hx => h5 x (List.mem_of_mem_take hx)⟩
  have hu := h4.upto (m := m) hm
  rw [hd_take] at hu
  exact hu
theorem compact_nil : compactT (sortT []) = [] := by decide +kernel
theorem few_ok {L : List Rx} {w : World} (hF : L.length ≤ 50 ∧ ∀ j, j < L.length → (gRx L j).h.n ≤ 50) (hr : ∀ x ∈ L, x.raw w) : ∀ x ∈ L, x.ok w := fun x hx => by
  obtain ⟨j, hj, e⟩ := List.getElem_of_mem hx
  have h1 := hF.2 j hj
  have e2 : gRx L j = x := by unfold gRx; rw [List.getD_eq_getElem?_getD, List.getElem?_eq_getElem hj]; exact e
  rw [e2] at h1
  exact ⟨(hr x hx).1, by omega, (hr x hx).2⟩
/-- The route at a place. -/
theorem RL.cells {w : World} {A : Option Addr} {n c : Nat} {R : List Rt} (h : RL w (.slice A n c) R) {k : Nat} (hk : k < n) : ∃ ad An nn cn, A = some ad ∧ w.cell? (ad.add (k * 2)) = some (.slice An nn cn) ∧ w.cell? ⟨(ad.add (k * 2)).block, (ad.add (k * 2)).off + 1, none⟩ = some (.int .i64 (gT R k).2) ∧ (gT R k).1.length = nn ∧ nn ≤ 1000000 ∧ Sl w w.heap.size 3 An nn cn (flatHp (gT R k).1) := by
  obtain ⟨A', n', c', L, e, h2, h3, h4, h5⟩ := h
  injection e with e1 e2 e3
  subst e1 e2 e3
  obtain ⟨ad, had, hb, x0, x1⟩ := h4.lst.atRx h2 hk
  have hx := h5 _ (gRx_mem (d := L) (i := k) (by omega))
  have e : gT R k = (gRx L k).rt := by rw [← h3, gT_rt]
  rw [e]
  exact ⟨ad, _, _, _, had, x0, x1, hx.1, hx.2.1, hx.2.2⟩
end Go.Proofs.Ytbhhkaaidhapbaa
