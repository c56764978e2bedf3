/- Several texts of mine in one: JointT, JointTM. No condition. -/
import Derived.Test.YtmbaklodgpcegaaJoint
import Derived.Test.YtmbaklodgpcegaaGQ10

/- joint.To: for each node the places of the edges to there, each a row of its own. It makes new memory alone. -/
namespace Go.Proofs.Ytmbaklodgpcegaa
open Go.ChangeShapes Go.WideShapes Go.ChangeAt Go.RowKit Go.Sort Hp
set_option linter.unusedSimpArgs false
set_option linter.unusedVariables false
/-- Of the first k edges the places of those from n. -/
def rowT (l : List Ed) (k n : Nat) : List Int := ((List.range k).filter (fun (i : Nat) => (gEd l i).tn == (n : Int))).map (fun (i : Nat) => (i : Int))
theorem rowT_next (l : List Ed) (k n : Nat) : rowT l (k + 1) n = if (gEd l k).tn = (n : Int) then rowT l k n ++ [(k : Int)] else rowT l k n := by
  unfold rowT
  rw [List.range_succ, List.filter_append, List.map_append]
  by_cases h : (gEd l k).tn = (n : Int)
  · rw [if_pos h]; simp [h]
  · rw [if_neg h]; simp [h]
theorem rowT_zero (l : List Ed) (n : Nat) : rowT l 0 n = [] := rfl
theorem rowT_len (l : List Ed) (k n : Nat) : (rowT l k n).length ≤ k := by
  unfold rowT
  rw [List.length_map]
  have := List.length_filter_le (fun i => (gEd l i).tn == (n : Int)) (List.range k)
  simpa using this
/-- 256 cells, each a row of the call's own, no two of them in one block. -/
structure PlcT (w : World) (base : Nat) (l : List Ed) (k : Nat) (cs : List Value) : Prop where
  len : cs.length = 256
  row : ∀ n, n < 256 → w.ownsRow base 3 1 (cellP cs n) (rowT l k n).length ((rowT l k n).map (Value.int .i64))
  sep : ∀ n m, n < 256 → m < 256 → n ≠ m → (cellP cs n).ownBlock = none ∨ (cellP cs n).ownBlock ≠ (cellP cs m).ownBlock
theorem PlcT.zero (w : World) (base : Nat) (l : List Ed) : PlcT w base l 0 (List.replicate 256 (.slice none 0 0)) := by
  have hc : ∀ n, n < 256 → cellP (List.replicate 256 (Value.slice none 0 0)) n = .slice none 0 0 := fun n hn => by
    unfold cellP
    rw [List.getD_eq_getElem?_getD, List.getElem?_replicate, if_pos hn]; rfl
  refine ⟨List.length_replicate, fun n hn => ?_, fun n m hn hm _ => ?_⟩
  · rw [hc n hn, rowT_zero]
    exact World.ownsRow_nil _ _ _ _
  · rw [hc n hn]; exact .inl rfl
theorem PlcT.below {w w' : World} {base : Nat} {l : List Ed} {k : Nat} {cs : List Value} (h : PlcT w base l k cs) (hb : Below w.heap.size w w') : PlcT w' base l k cs := ⟨h.len, fun n hn => own_belowJ (h.row n hn) hb, h.sep⟩
theorem PlcT.put {w W w' : World} {base g : Nat} {l : List Ed} {k f : Nat} {v1 : Value} {cs : List Value} (h : PlcT w base l k cs) (hf : f < 256) (hfr : (gEd l k).tn = (f : Int)) (hg : g < base) (hw : Below w.heap.size w W) (hgr : W.grownBy w' (cellP cs f).ownBlock)
    (hown : w'.ownsRow base 3 1 v1 ((rowT l k f).length + 1) ((rowT l k f).map (Value.int .i64) ++ [.int .i64 k])) (hbl : v1.ownBlock = (cellP cs f).ownBlock ∨ ∃ b, w.heap.size ≤ b ∧ v1.ownBlock = some b) :
    PlcT (w'.setCell ⟨g, f, none⟩ v1) base l (k + 1) (cs.set f v1) := by
  have hset : ∀ {v : Value} {n : Nat} {xs : List Value}, w'.ownsRow base 3 1 v n xs → (w'.setCell ⟨g, f, none⟩ v1).ownsRow base 3 1 v n xs := fun hv => own_low' hv (grown_set (g := g) w' f v1) hg
  have hl := h.len
  refine ⟨by rw [List.length_set]; exact h.len, fun n hn => ?_, fun n m hn hm hne => ?_⟩
  · rw [cellP_set v1 (by omega), rowT_next]
    by_cases e : n = f
    · subst e
      rw [if_pos rfl, if_pos hfr, List.length_append, List.map_append]
      exact hset hown
    · rw [if_neg e, if_neg (fun e2 => e (by omega))]
      refine hset ((own_belowJ (h.row n hn) hw).kept hgr ?_)
      rcases h.sep n f hn hf e with h1 | h1
      · exact .inl h1
      · exact .inr h1
  · rw [cellP_set v1 (by omega), cellP_set v1 (by omega)]
    have key : ∀ m, m < 256 → m ≠ f → (cellP cs m).ownBlock = none ∨ (cellP cs m).ownBlock ≠ v1.ownBlock := fun m hm hmf => by
      rcases hbl with h1 | ⟨b, h1, h2⟩
      · rw [h1]; exact h.sep m f hm hf hmf
      · cases ho : (cellP cs m).ownBlock with
        | none => exact .inl rfl
        | some q =>
          refine .inr fun e => ?_
          rw [h2] at e
          injection e with e
          have := ((h.row m hm).lt q ho).2
          omega
    by_cases e : n = f
    · subst e
      rw [if_pos rfl, if_neg (fun e => hne e.symm)]
      rcases key m hm (fun e => hne e.symm) with h1 | h1
      · by_cases h3 : v1.ownBlock = none
        · exact .inl h3
        · exact .inr fun e => h3 (by rw [e]; exact h1)
      · exact .inr fun e => h1 e.symm
    · rw [if_neg e]
      by_cases e2 : m = f
      · subst e2
        rw [if_pos rfl]
        exact key n hn e
      · rw [if_neg e2]; exact h.sep n m hn hm hne
end Go.Proofs.Ytmbaklodgpcegaa

/- The places of the edges to a node. Plain facts. -/
namespace Go.Proofs.Ytmbaklodgpcegaa
open Go.ChangeShapes Go.WideShapes Go.ChangeAt Go.RowKit Go.Sort Hp
set_option linter.unusedSimpArgs false
set_option linter.unusedVariables false
theorem rowT_edges (l : List Ed) (n : Nat) : ∀ k, k ≤ l.length → (rowT l k n).map (fun i => gEd l i.toNat) = (l.take k).filter (fun e => e.tn == (n : Int))
  | 0, _ => by rw [rowT_zero]; rfl
  | k + 1, h => by
    have ih := rowT_edges l n k (by omega)
    rw [rowT_next, take_nextEd (by omega), List.filter_append, ← ih]
    by_cases e : (gEd l k).tn = (n : Int)
    · rw [if_pos e, List.map_append, List.filter_cons_of_pos (by simpa using e)]; simp
    · rw [if_neg e, List.filter_cons_of_neg (by simpa using e)]; simp
/-- The places of the edges to n, and these edges. -/
structure RowT (l : List Ed) (n : Int) (R : List Int) : Prop where
  at_ : ∀ j, j < R.length → ∃ i : Nat, R.getD j 0 = (i : Int) ∧ i < l.length ∧ (gEd l i).tn = n
  len : R.length = (l.filter (fun e => e.tn == n)).length
  all : ∀ e ∈ l, e.tn = n → e ∈ R.map (fun i => gEd l i.toNat)
theorem rowT_of (l : List Ed) (n : Nat) : RowT l (n : Int) (rowT l l.length n) := by
  have h := rowT_edges l n l.length (Nat.le_refl _)
  rw [List.take_length] at h
  refine ⟨fun j hj => ?_, ?_, fun e he hf => ?_⟩
  · have hm : (rowT l l.length n).getD j 0 ∈ rowT l l.length n := by
      rw [List.getD_eq_getElem?_getD, List.getElem?_eq_getElem hj]; exact List.getElem_mem _
    generalize (rowT l l.length n).getD j 0 = x at hm
    unfold rowT at hm
    obtain ⟨i, hi, rfl⟩ := List.mem_map.1 hm
    obtain ⟨h1, h2⟩ := List.mem_filter.1 hi
    exact ⟨i, rfl, by simpa using h1, by simpa using h2⟩
  · have := congrArg List.length h
    rwa [List.length_map] at this
  · rw [h]
    exact List.mem_filter.2 ⟨he, by simpa using hf⟩
end Go.Proofs.Ytmbaklodgpcegaa
