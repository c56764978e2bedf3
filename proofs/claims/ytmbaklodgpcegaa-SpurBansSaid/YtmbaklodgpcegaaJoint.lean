/- joint.From: for each node the places of the edges from there, each a row of its own. It makes new memory alone. -/
import Derived.Test.YtmbaklodgpcegaaGQ11
import Derived.Test.YtmbaklodgpcegaaGQ3
namespace Go.Proofs.Ytmbaklodgpcegaa
open Go.ChangeShapes Go.WideShapes Go.ChangeAt Go.RowKit Go.Sort Hp
set_option linter.unusedSimpArgs false
set_option linter.unusedVariables false
theorem infoIJ : (Try.prog.info? 3).map (fun i => (i.zero, i.size, i.bytes)) = some (some (.int .i64 0), 1, 8) := by kernel_rfl
/-- Of the first k edges the places of those from n. -/
def rowI (l : List Ed) (k n : Nat) : List Int := ((List.range k).filter (fun (i : Nat) => (gEd l i).fr == (n : Int))).map (fun (i : Nat) => (i : Int))
theorem rowI_next (l : List Ed) (k n : Nat) : rowI l (k + 1) n = if (gEd l k).fr = (n : Int) then rowI l k n ++ [(k : Int)] else rowI l k n := by
  unfold rowI
  rw [List.range_succ, List.filter_append, List.map_append]
  by_cases h : (gEd l k).fr = (n : Int)
  · rw [if_pos h]; simp [h]
  · rw [if_neg h]; simp [h]
theorem rowI_zero (l : List Ed) (n : Nat) : rowI l 0 n = [] := rfl
theorem rowI_len (l : List Ed) (k n : Nat) : (rowI l k n).length ≤ k := by
  unfold rowI
  rw [List.length_map]
  have := List.length_filter_le (fun i => (gEd l i).fr == (n : Int)) (List.range k)
  simpa using this
def cellP (cs : List Value) (n : Nat) : Value := cs.getD n (.bool false)
/-- 256 cells, each a row of the call's own, no two of them in one block. -/
structure Plc (w : World) (base : Nat) (l : List Ed) (k : Nat) (cs : List Value) : Prop where
  len : cs.length = 256
  row : ∀ n, n < 256 → w.ownsRow base 3 1 (cellP cs n) (rowI l k n).length ((rowI l k n).map (Value.int .i64))
  sep : ∀ n m, n < 256 → m < 256 → n ≠ m → (cellP cs n).ownBlock = none ∨ (cellP cs n).ownBlock ≠ (cellP cs m).ownBlock
theorem cellP_at {cs : List Value} {n : Nat} (h : n < cs.length) : cs[n]? = some (cellP cs n) := by
  unfold cellP
  rw [List.getD_eq_getElem?_getD, List.getElem?_eq_getElem h]; rfl
theorem cellP_set {cs : List Value} {f n : Nat} (v : Value) (h : f < cs.length) : cellP (cs.set f v) n = if n = f then v else cellP cs n := by
  unfold cellP
  rw [List.getD_eq_getElem?_getD, List.getD_eq_getElem?_getD, List.getElem?_set]
  by_cases e : n = f
  · subst e; simp [h]
  · rw [if_neg (fun e2 => e e2.symm), if_neg e]
theorem own_low' {w w' : World} {base g : Nat} {e : TypeId} {size n : Nat} {v : Value} {xs : List Value} (h : w.ownsRow base e size v n xs) (hg : w.grownBy w' (some g)) (hb : g < base) : w'.ownsRow base e size v n xs :=
  h.kept hg (by
    cases hq : v.ownBlock with
    | none => exact .inl rfl
    | some q =>
      refine .inr fun e => ?_
      injection e with e
      have := (h.lt q hq).1
      omega)
theorem own_belowJ {w w' : World} {base : Nat} {e : TypeId} {size n : Nat} {v : Value} {xs : List Value} (h : w.ownsRow base e size v n xs) (hb : Below w.heap.size w w') : w'.ownsRow base e size v n xs :=
  h.kept (grown_of_below (row := some w.heap.size) hb) (.inr (fun e => by have := (h.lt _ e).2; omega))
theorem Plc.zero (w : World) (base : Nat) (l : List Ed) : Plc w base l 0 (List.replicate 256 (.slice none 0 0)) := by
  have hc : ∀ n, n < 256 → cellP (List.replicate 256 (Value.slice none 0 0)) n = .slice none 0 0 := fun n hn => by
    unfold cellP
    rw [List.getD_eq_getElem?_getD, List.getElem?_replicate, if_pos hn]; rfl
  refine ⟨List.length_replicate, fun n hn => ?_, fun n m hn hm _ => ?_⟩
  · rw [hc n hn, rowI_zero]
    exact World.ownsRow_nil _ _ _ _
  · rw [hc n hn]; exact .inl rfl
theorem Plc.below {w w' : World} {base : Nat} {l : List Ed} {k : Nat} {cs : List Value} (h : Plc w base l k cs) (hb : Below w.heap.size w w') : Plc w' base l k cs := ⟨h.len, fun n hn => own_belowJ (h.row n hn) hb, h.sep⟩
theorem Plc.put {w W w' : World} {base g : Nat} {l : List Ed} {k f : Nat} {v1 : Value} {cs : List Value} (h : Plc w base l k cs) (hf : f < 256) (hfr : (gEd l k).fr = (f : Int)) (hg : g < base) (hw : Below w.heap.size w W) (hgr : W.grownBy w' (cellP cs f).ownBlock)
    (hown : w'.ownsRow base 3 1 v1 ((rowI l k f).length + 1) ((rowI l k f).map (Value.int .i64) ++ [.int .i64 k])) (hbl : v1.ownBlock = (cellP cs f).ownBlock ∨ ∃ b, w.heap.size ≤ b ∧ v1.ownBlock = some b) :
    Plc (w'.setCell ⟨g, f, none⟩ v1) base l (k + 1) (cs.set f v1) := by
  have hset : ∀ {v : Value} {n : Nat} {xs : List Value}, w'.ownsRow base 3 1 v n xs → (w'.setCell ⟨g, f, none⟩ v1).ownsRow base 3 1 v n xs := fun hv => own_low' hv (grown_set (g := g) w' f v1) hg
  have hl := h.len
  refine ⟨by rw [List.length_set]; exact h.len, fun n hn => ?_, fun n m hn hm hne => ?_⟩
  · rw [cellP_set v1 (by omega), rowI_next]
    by_cases e : n = f
    · subst e
      rw [if_pos rfl, if_pos hfr, List.length_append, List.map_append]
      exact hset hown
    · rw [if_neg e, if_neg (fun e2 => e (by omega))]
      refine hset ((own_belowJ (h.row n hn) hw).kept hgr ?_)
      rcases h.sep n f hn hf e with h1 | h1
      · exact .inl h1
      · exact .inr h1
  · rw [cellP_set v1 (by omega), cellP_set v1 (by omega)]
    have key : ∀ m, m < 256 → m ≠ f → (cellP cs m).ownBlock = none ∨ (cellP cs m).ownBlock ≠ v1.ownBlock := fun m hm hmf => by
      rcases hbl with h1 | ⟨b, h1, h2⟩
      · rw [h1]; exact h.sep m f hm hf hmf
      · cases ho : (cellP cs m).ownBlock with
        | none => exact .inl rfl
        | some q =>
          refine .inr fun e => ?_
          rw [h2] at e
          injection e with e
          have := ((h.row m hm).lt q ho).2
          omega
    by_cases e : n = f
    · subst e
      rw [if_pos rfl, if_neg (fun e => hne e.symm)]
      rcases key m hm (fun e => hne e.symm) with h1 | h1
      · by_cases h3 : v1.ownBlock = none
        · exact .inl h3
        · exact .inr fun e => h3 (by rw [e]; exact h1)
      · exact .inr fun e => h1 e.symm
    · rw [if_neg e]
      by_cases e2 : m = f
      · subst e2
        rw [if_pos rfl]
        exact key n hn e
      · rw [if_neg e2]; exact h.sep n m hn hm hne
end Go.Proofs.Ytmbaklodgpcegaa
