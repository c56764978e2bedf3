/- slices.Sort at ints, a row of the call's own. No condition. -/
import Derived.Test.YtojjnbpgdegjiaaShelf
import Derived.Test.YtojjnbpgdegjiaaSlLib
import Derived.Sort.OwnSortedInts
namespace Go.Proofs.Ytojjnbpgdegjiaa
open Go.ChangeShapes Go.WideShapes Go.ChangeAt Go.RowKit Go.Sort
set_option linter.unusedSimpArgs false
set_option linter.unusedVariables false
def sortI (l : List Int) : List Int := l.mergeSort fun x y => decide (x ≤ y)
theorem sortI_length (l : List Int) : (sortI l).length = l.length := by unfold sortI; exact List.length_mergeSort _
theorem sortI_any (u : Value) (l : List Int) (base : Nat) (w : World) (hl : l.length ≤ 1000000) (hown : w.ownsRow base 3 1 u l.length (l.map (Value.int .i64))) :
    Calls Try.prog 43 #[u] w fun e w' => e = .returned (.tuple #[]) ∧ w'.ownsRow base 3 1 u l.length ((sortI l).map (Value.int .i64)) ∧ w.grownBy w' u.ownBlock := by
  rcases hown.2 with ⟨rfl, h0⟩ | ⟨g, cap, cur, rfl, hbase, hb, h1, h2, h3, h4⟩
  · have hl0 : l = [] := by simpa using h0
    subst hl0
    refine (Try.slices_Sort_int_none none 0 w).mono ?_
    rintro e w' ⟨rfl, rfl⟩
    exact ⟨rfl, by rw [show sortI [] = [] from by simp [sortI]]; exact hown, grown_refl _ _⟩
  · have hH := holds_of_blockI hb (by simpa using h4)
    have hgl : g < w.heap.size := (Array.getElem?_eq_some_iff.1 hb).1
    refine (Try.slices_Sort_int g 0 cap l w hH hgl (by omega)).mono ?_
    rintro e w' ⟨rfl, nn, os, rfl⟩
    exact ⟨rfl, ownsRow_sortedI (sortI_length l) hbase hb h1 h2 h3, grownBy_sortedI _⟩
theorem own_ne {w : World} {b b' : Nat} {e e' : TypeId} {s s' n n' : Nat} {v v' : Value} {xs xs' : List Value} (h : w.ownsRow b e s v n xs) (h' : w.ownsRow b' e' s' v' n' xs') (hne : e ≠ e') : v.ownBlock = none ∨ v.ownBlock ≠ v'.ownBlock := by
  rcases h.2 with ⟨rfl, _⟩ | ⟨g, cap, cur, rfl, _, hg, _⟩
  · exact .inl rfl
  · rcases h'.2 with ⟨rfl, _⟩ | ⟨g', cap', cur', rfl, _, hg', _⟩
    · exact .inr (by simp [Value.ownBlock])
    · refine .inr (fun e2 => hne ?_)
      simp only [Value.ownBlock, Option.some.injEq] at e2
      rw [e2, hg'] at hg
      injection hg with hg
      injection hg with _ hg
      exact hg.symm
end Go.Proofs.Ytojjnbpgdegjiaa
