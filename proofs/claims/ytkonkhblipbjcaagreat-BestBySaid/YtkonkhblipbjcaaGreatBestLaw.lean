/- Facts for layer 19's laws. Plain facts; a slice of routes cut. -/
import Derived.Test.YtkonkhblipbjcaaGreatGQ28
namespace Go.Proofs.YtkonkhblipbjcaaGreat
open Go.ChangeShapes Go.WideShapes Go.ChangeAt Go.RowKit Go.Sort
set_option linter.unusedSimpArgs false
set_option linter.unusedVariables false
theorem run_hiR (w0 : World) (A : Option Addr) (n c p : Nat) (hp : p ≤ c) : (Instr.slice 25 (.slice A n c) none (some (.int .i64 (p : Int))) none).run Tryz.prog w0 = .ok (.slice A p c) w0 := by
  have ht : Tryz.prog.underlying 25 = some (.slice (Tryz.prog.elem 25)) := by kernel_rfl
  have hsz : (sizeOf (Tryz.prog.elem 25)).run Tryz.prog w0 = .ok 2 w0 := by kernel_rfl
  rw [run_slice_h w0 25 A n c ht .i64 (p : Int) (by omega) (by omega), hsz]
  simp [Result.andThen, sliced]
  intro _
  cases A <;> simp [Addr.add_zero']
theorem RO.cap {w : World} {base n c : Nat} {A : Option Addr} {R : List Rtp} (h : RO w base (.slice A n c) R) : n ≤ c := by
  obtain ⟨L, h1, _, _⟩ := h
  obtain ⟨A', c', e⟩ := slice_of_own h1
  simp only [Value.slice.injEq] at e
  obtain ⟨rfl, rfl, rfl⟩ := e
  exact (Sl.of_own h1).cap
theorem more_math {X : List Rtp} {k : Nat} : (X.take k).length ≤ (X.take (k + 1)).length ∧ (X.take (k + 1)).length ≤ (X.take k).length + 1 ∧ ((X.take k).length < k → (X.take (k + 1)).length = (X.take k).length) ∧ (X.take (k + 1)).take (X.take k).length = X.take k := by
  simp only [List.length_take]
  refine ⟨by omega, by omega, by omega, ?_⟩
  rw [List.take_take]
  by_cases h : k ≤ X.length
  · congr 1; omega
  · rw [List.take_of_length_le (by omega), List.take_of_length_le (by omega)]
theorem takeWhile_imp {α : Type} {P : α → Bool} : ∀ {l : List α} {x : α}, x ∈ l.takeWhile P → P x = true
  | [], x, h => by cases h
  | y :: r, x, h => by
    rw [List.takeWhile_cons] at h
    split at h
    · rename_i hy
      rcases List.mem_cons.1 h with rfl | h
      · exact hy
      · exact takeWhile_imp h
    · cases h
/-- Who is to be there earlier: the first ones that are there by then. -/
theorem by_math {l : List Ed} {f q now size by_ u : Int} (hu : u ≤ by_) {X Y : List Rtp} {m1 m2 k : Nat} (hX : (allR l f q now size by_).take k = X) (hY : (allR l f q now size u).take k = Y) (h1 : X.length = m1) (h2 : Y.length = m2) :
    m2 ≤ m1 ∧ X.take m2 = Y ∧ (∀ i, i < m2 → (X.getD i ([], 0)).2 ≤ u) ∧ (m2 < m1 → u < (X.getD m2 ([], 0)).2) := by
  have hY2 : Y = X.takeWhile (fun p => decide (p.2 ≤ u)) := by rw [← hY, allR_sooner hu, take_takeWhile, hX]
  have hp : Y <+: X := hY2 ▸ List.takeWhile_prefix _
  obtain ⟨Z, hZ⟩ := hp
  have hl : m2 ≤ m1 := by rw [← h1, ← h2, ← hZ, List.length_append]; omega
  have ht : X.take m2 = Y := by rw [← hZ, ← h2, List.take_left]
  refine ⟨hl, ht, fun i hi => ?_, fun hlt => ?_⟩
  · have h3 : X.getD i ([], 0) ∈ Y := by
      rw [List.getD_eq_getElem?_getD, ← hZ, List.getElem?_append_left (by omega), List.getElem?_eq_getElem (by omega)]
      exact List.getElem_mem _
    rw [hY2] at h3
    have := takeWhile_imp h3
    exact of_decide_eq_true this
  · cases hZc : Z with
    | nil => rw [hZc, List.append_nil] at hZ; rw [← hZ, h2] at h1; omega
    | cons z Z' =>
      have h4 : X.getD m2 ([], 0) = z := by
        rw [List.getD_eq_getElem?_getD, ← hZ, hZc, List.getElem?_append_right (by omega), h2, Nat.sub_self]
        rfl
      rw [h4]
      rcases Int.lt_or_le u z.2 with h5 | h5
      · exact h5
      · exfalso
        have h6 : ∀ (Y Z' : List Rtp) (z : Rtp), z.2 ≤ u → Y = (Y ++ z :: Z').takeWhile (fun p => decide (p.2 ≤ u)) → False := by
          intro Y
          induction Y with
          | nil => intro Z' z hz h; rw [List.nil_append, List.takeWhile_cons, if_pos (decide_eq_true hz)] at h; cases h
          | cons y Y ih =>
            intro Z' z hz h
            rw [List.cons_append, List.takeWhile_cons] at h
            split at h
            · injection h with _ h
              exact ih Z' z hz h
            · cases h
        refine h6 Y Z' z h5 ?_
        rw [← hZc, hZ]; exact hY2
theorem rtOk_of_route {l : List Ed} {f q now size by_ ar : Int} {ids : List Int} {hs : List Hp} (h : routeE l ids f q now size = some (hs, ar)) (hle : ar ≤ by_) : RtOk l f q now size by_ (hs, ar) := by
  obtain ⟨es, h1, h2, h3, ha, hq⟩ := rte_of_route h
  have e : idsT (hs, ar) = ids := by
    show hs.map Hp.id = ids
    rw [← h2, ← hopsE_ids size now es]
    exact congrArg (List.map Hp.id) h3
  exact ⟨by rw [e]; exact h, hle⟩
theorem rtok_len {l : List Ed} {f q now size by_ : Int} {p : Rtp} (h : RtOk l f q now size by_ p) : p.1.length ≤ l.length := by
  obtain ⟨ha, es, h1, h2, h3⟩ := h.rte
  rw [h2, hopsE_length]
  exact h1.len
end Go.Proofs.YtkonkhblipbjcaaGreat
