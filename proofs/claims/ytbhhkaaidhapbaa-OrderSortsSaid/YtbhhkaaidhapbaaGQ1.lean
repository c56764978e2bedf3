/- Several texts of mine in one: Order9, OrdSmall. No condition. -/
import Derived.Test.YtbhhkaaidhapbaaOrder8
namespace Go.Proofs.Ytbhhkaaidhapbaa
open Go.ChangeShapes Go.WideShapes Go.ChangeAt Go.RowKit Go.Sort
set_option linter.unusedSimpArgs false
set_option linter.unusedVariables false
section
variable {α β : Type} [Inhabited α] [Inhabited β] (f : α → β) (hf : f default = default) (cf : α → α → Int) (cg : β → β → Int) (hc : ∀ x y, cg (f x) (f y) = cf x y)
include hf
theorem bang_mapG (d : Array α) (i : Nat) : (d.map f)[i]! = f d[i]! := by
  by_cases h : i < d.size
  · simp [h]
  · simp [h, hf]
theorem swp_mapG (d : Array α) (i j : Nat) : (Sort.swp d i j).map f = Sort.swp (d.map f) i j := by
  unfold Sort.swp
  rw [bang_mapG f hf, bang_mapG f hf]
  simp
include hc
theorem inner_mapG (a : Nat) : ∀ (j : Nat) (d : Array α), (Sort.insInner (ltOf cf) a j d).map f = Sort.insInner (ltOf cg) a j (d.map f)
  | 0, d => rfl
  | j + 1, d => by
    rw [Sort.insInner, Sort.insInner, bang_mapG f hf, bang_mapG f hf]
    have e : ltOf cg (f d[j + 1]!) (f d[j]!) = ltOf cf d[j + 1]! d[j]! := by unfold ltOf; rw [hc]
    rw [e]
    split
    · rw [inner_mapG a j, swp_mapG f hf]
    · rfl
theorem outer_mapG (a b : Nat) : ∀ (k i : Nat) (d : Array α), b - i ≤ k → (Sort.insOuter (ltOf cf) a b i d).map f = Sort.insOuter (ltOf cg) a b i (d.map f)
  | 0, i, d, h => by
    rw [Sort.insOuter.eq_def (lt := ltOf cf), Sort.insOuter.eq_def (lt := ltOf cg), if_neg (by omega), if_neg (by omega)]
  | k + 1, i, d, h => by
    rw [Sort.insOuter.eq_def (lt := ltOf cf), Sort.insOuter.eq_def (lt := ltOf cg)]
    by_cases hi : i < b
    · rw [if_pos hi, if_pos hi, outer_mapG a b k (i + 1) _ (by omega), inner_mapG f hf cf cg hc]
    · rw [if_neg hi, if_neg hi]
end
/-- A route: its hops, when it is there. -/
abbrev Rt := List Hp × Int
def cfT (a b : Rt) : Int := cmpR a.2 a.1 b.2 b.1
def sortT (l : List Rt) : List Rt := (Sort.insertionSort (ltOf cfT) l.toArray 0 l.length).toList
theorem sortX_rt (l : List Rx) : (sortX l).map Rx.rt = sortT (l.map Rx.rt) := by
  unfold sortX sortT Sort.insertionSort
  rw [← Array.toList_map, outer_mapG Rx.rt rfl cfX cfT (fun _ _ => rfl) 0 l.length l.length 1 _ (by omega)]
  simp
def gT (l : List Rt) (i : Nat) : Rt := l.getD i ([], 0)
def kpT (l : List Rt) : Nat → List Rt
  | 0 => []
  | j + 1 => kpT l j ++ if j = 0 ∨ (!decide (cfT (gT l j) (gT l (j - 1)) = 0)) = true then [gT l j] else []
def compactT (l : List Rt) : List Rt := kpT l l.length
theorem gT_rt (l : List Rx) (i : Nat) : gT (l.map Rx.rt) i = (gRx l i).rt := by
  unfold gT gRx
  rw [List.getD_eq_getElem?_getD, List.getD_eq_getElem?_getD, List.getElem?_map]
  cases l[i]? <;> rfl
theorem kpX_rt (l : List Rx) : ∀ k, (kpX l k).map Rx.rt = kpT (l.map Rx.rt) k
  | 0 => rfl
  | k + 1 => by
    rw [kpX, kpT, List.map_append, kpX_rt l k, gT_rt, gT_rt]
    have e : (!decide (cfT (gRx l k).rt (gRx l (k - 1)).rt = 0)) = keepX l k := rfl
    rw [e]
    split <;> rfl
theorem compactX_rt (l : List Rx) : (compactX l).map Rx.rt = compactT (l.map Rx.rt) := by
  unfold compactX compactT
  rw [kpX_rt, List.length_map]
/-- The routes that come out of order.Sort. -/
theorem out_rt {l m : List Rx} {n : Nat} (hl : l.length = n) (hm : m.length = n) (h : ∀ j, j < n → (gRx m j).d = (gRx l j).d ∧ (gRx m j).h.t = (gRx l j).h.t) : (compactX (sortX m)).map Rx.rt = compactT (sortT (l.map Rx.rt)) := by
  rw [compactX_rt, sortX_rt]
  have e : m.map Rx.rt = l.map Rx.rt := by
    refine List.ext_getElem (by simp [hl, hm]) fun j h1 h2 => ?_
    simp only [List.length_map] at h1 h2
    have h3 := h j (by omega)
    unfold gRx at h3
    rw [List.getD_eq_getElem?_getD, List.getD_eq_getElem?_getD, List.getElem?_eq_getElem h1, List.getElem?_eq_getElem h2] at h3
    simp only [List.getElem_map, Rx.rt]
    simp only [Option.getD_some] at h3
    rw [h3.1, h3.2]
  rw [e]
end Go.Proofs.Ytbhhkaaidhapbaa
namespace Go.Proofs.Ytbhhkaaidhapbaa
open Go.ChangeShapes Go.WideShapes Go.ChangeAt Go.RowKit Go.Sort
set_option linter.unusedSimpArgs false
set_option linter.unusedVariables false
def ra : Rt := ([⟨9, 1, 20⟩], 20)
def rb : Rt := ([⟨1, 1, 5⟩, ⟨2, 5, 20⟩], 20)
def rc : Rt := ([⟨1, 1, 5⟩, ⟨3, 5, 20⟩], 20)
def rd : Rt := ([⟨9, 2, 20⟩], 20)
theorem small_sort : compactT (sortT [rc, rb, ra, rd]) = [ra, rb, rc] := by decide +kernel
theorem small_ins : (compactT (sortT ([ra, rc] ++ [rb]))).take 2 = [ra, rb] := by decide +kernel
end Go.Proofs.Ytbhhkaaidhapbaa
