/- slices.SortStableFunc by order.Compare at routes, a row of the call's own, at less than 1000. No condition but that. -/
import Derived.Test.YtbhhkaaidhapbaaOrder5
import Derived.Test.YtbhhkaaidhapbaaSymWalk4
import Derived.Test.YtbhhkaaidhapbaaGQ3
import Derived.Sort.OwnSorted
namespace Go.Proofs.Ytbhhkaaidhapbaa
open Go.ChangeShapes Go.WideShapes Go.ChangeAt Go.RowKit Go.Sort
set_option linter.unusedSimpArgs false
set_option linter.unusedVariables false
theorem holds_of_blockV {w : World} {g : Nat} {cur : Array Value} {e : TypeId} {ss : List Value} (hb : w.heap[g]? = some (.cells cur e (0, 0))) (ht : cur.toList.take ss.length = ss) : Holds id w g 0 ss.toArray := by
  intro j hj
  have hj' : j < ss.length := by simpa using hj
  refine ⟨?_, by simp [World.frozen?, hb]⟩
  have h1 : (cur.toList.take ss.length)[j]? = ss[j]? := by rw [ht]
  rw [List.getElem?_take_of_lt hj'] at h1
  simp only [World.cell?, hb, Nat.zero_add]
  simp only [Option.isSome_none, Bool.false_eq_true, if_false]
  rw [← Array.getElem?_toList, h1]
  simp [hj']
theorem heap_sortedV {w : World} {g n : Nat} {os : Array Obj} {cur : Array Value} {e : TypeId} {fr : Nat × Nat} (d : Array Value) (hb : w.heap[g]? = some (.cells cur e fr)) :
    (grow (putRow id (Sort.ahead w n) g 0 d) os).heap[g]? = some (.cells (putCells id 0 d cur) e fr) := by
  have hg : g < w.heap.size := (Array.getElem?_eq_some_iff.1 hb).1
  rw [heap_grow_old _ _ (by simpa using hg)]
  simp [putRow, mapBlock, Sort.ahead, Array.getElem?_modify, hb, onCells]
theorem grownBy_sortedV {w : World} {g n : Nat} {os : Array Obj} (d : Array Value) : w.grownBy (grow (putRow id (Sort.ahead w n) g 0 d) os) (some g) := by
  refine ⟨rfl, rfl, rfl, by simp, fun k hk hne => ?_⟩
  rw [heap_grow_old _ _ (by simpa using hk)]
  have : g ≠ k := fun e => hne (by rw [e])
  simp [putRow, mapBlock, Sort.ahead, Array.getElem?_modify, this]
theorem take_putCellsV (cur : Array Value) (ts : List Value) (h : ts.length ≤ cur.size) : (putCells id 0 ts.toArray cur).toList.take ts.length = ts := by
  apply List.ext_getElem?
  intro j
  by_cases hj : j < ts.length
  · rw [List.getElem?_take_of_lt hj, Array.getElem?_toList]
    simp [putCells, hj, show j < cur.size by omega]
  · rw [List.getElem?_take_eq_none (by omega), List.getElem?_eq_none (by omega)]
theorem ownsRow_sortedV {w : World} {base g cap n k m : Nat} {e : TypeId} {os : Array Obj} {cur : Array Value} {ts : List Value} (hl : ts.length = n * k) (hbase : base ≤ g) (hb : w.heap[g]? = some (.cells cur e (0, 0)))
    (h1 : n ≤ cap) (h2 : cap ≤ maxLen) (h3 : cur.size = cap * k) :
    (grow (putRow id (Sort.ahead w m) g 0 ts.toArray) os).ownsRow base e k (.slice (some ⟨g, 0, none⟩) n cap) n ts :=
  ⟨hl, .inr ⟨g, cap, _, rfl, hbase, heap_sortedV _ hb, h1, h2, by simp [putCells, h3], by rw [← hl]; exact take_putCellsV cur ts (by rw [h3, hl]; exact Nat.mul_le_mul_right k h1)⟩⟩

def cfX (x y : Rx) : Int := cmpR x.h.t x.d y.h.t y.d
/-- The routes in order, as an insertion sort lays them. -/
def sortX (l : List Rx) : List Rx := (Sort.insertionSort (ltOf cfX) l.toArray 0 l.length).toList
section
variable {w : World} {g : Nat}
abbrev OkRx (w : World) (g : Nat) := {x : Rx // x.ok w ∧ x.off g}
instance inhOk : Inhabited (OkRx w g) := ⟨⟨zeroRx, Rx.ok_zero w, fun ad e => by cases e⟩⟩
def encX (x : OkRx w g) : List Value := x.1.h.cs
def cfO (x y : OkRx w g) : Int := cfX x.1 y.1
theorem bang_map (d : Array (OkRx w g)) (i : Nat) : (d.map Subtype.val)[i]! = (d[i]!).1 := by
  by_cases h : i < d.size
  · simp [h]
  · simp [h]; rfl
theorem swp_map (d : Array (OkRx w g)) (i j : Nat) : (Sort.swp d i j).map Subtype.val = Sort.swp (d.map Subtype.val) i j := by
  unfold Sort.swp
  rw [bang_map, bang_map]
  simp
theorem inner_map (a : Nat) : ∀ (j : Nat) (d : Array (OkRx w g)), (Sort.insInner (ltOf cfO) a j d).map Subtype.val = Sort.insInner (ltOf cfX) a j (d.map Subtype.val)
  | 0, d => rfl
  | j + 1, d => by
    rw [Sort.insInner, Sort.insInner, bang_map, bang_map]
    by_cases h : (decide (j + 1 > a) && ltOf cfO d[j + 1]! d[j]!) = true
    · rw [if_pos h, if_pos (show (decide (j + 1 > a) && ltOf cfX (d[j + 1]!).1 (d[j]!).1) = true from h), inner_map a j, swp_map]
    · rw [if_neg h, if_neg (show ¬ (decide (j + 1 > a) && ltOf cfX (d[j + 1]!).1 (d[j]!).1) = true from h)]
theorem outer_map (a b : Nat) : ∀ (f i : Nat) (d : Array (OkRx w g)), b - i ≤ f → (Sort.insOuter (ltOf cfO) a b i d).map Subtype.val = Sort.insOuter (ltOf cfX) a b i (d.map Subtype.val)
  | 0, i, d, h => by
    rw [Sort.insOuter.eq_def (lt := ltOf cfO), Sort.insOuter.eq_def (lt := ltOf cfX), if_neg (by omega), if_neg (by omega)]
  | f + 1, i, d, h => by
    rw [Sort.insOuter.eq_def (lt := ltOf cfO), Sort.insOuter.eq_def (lt := ltOf cfX)]
    by_cases hi : i < b
    · rw [if_pos hi, if_pos hi, outer_map a b f (i + 1) _ (by omega), inner_map]
    · rw [if_neg hi, if_neg hi]
theorem sort_map (d : Array (OkRx w g)) (b : Nat) : (Sort.insertionSort (ltOf cfO) d 0 b).map Subtype.val = Sort.insertionSort (ltOf cfX) (d.map Subtype.val) 0 b := outer_map 0 b b 1 d (by omega)
theorem size_inner {α : Type} [Inhabited α] (lt : α → α → Bool) (a : Nat) : ∀ (j : Nat) (d : Array α), (Sort.insInner lt a j d).size = d.size
  | 0, d => rfl
  | j + 1, d => by
    rw [Sort.insInner]
    split
    · rw [size_inner lt a j]; simp [Sort.swp]
    · rfl
theorem size_outer {α : Type} [Inhabited α] (lt : α → α → Bool) (a b : Nat) : ∀ (f i : Nat) (d : Array α), b - i ≤ f → (Sort.insOuter lt a b i d).size = d.size
  | 0, i, d, h => by rw [Sort.insOuter.eq_def, if_neg (by omega)]
  | f + 1, i, d, h => by
    rw [Sort.insOuter.eq_def]
    split
    · rw [size_outer lt a b f (i + 1) _ (by omega), size_inner]
    · rfl
theorem size_insertionSort {α : Type} [Inhabited α] (lt : α → α → Bool) (d : Array α) (b : Nat) : (Sort.insertionSort lt d 0 b).size = d.size := size_outer lt 0 b b 1 d (by omega)
theorem flatX_bang (l : List (OkRx w g)) : ∀ t, t < l.length * 2 → (flatRh (hdRx (l.map Subtype.val)))[t]? = (encX (l.toArray[t / 2]!))[t % 2]? := by
  induction l with
  | nil => intro t h; simp at h
  | cons p d ih =>
    intro t h
    have hc : flatRh (hdRx ((p :: d).map Subtype.val)) = encX p ++ flatRh (hdRx (d.map Subtype.val)) := rfl
    rw [hc]
    by_cases h8 : t < 2
    · rw [List.getElem?_append_left (by exact h8)]
      have h1 : t / 2 = 0 := by omega
      have h2 : t % 2 = t := by omega
      rw [h1, h2]; simp
    · obtain ⟨s, rfl⟩ : ∃ s, t = s + 2 := ⟨t - 2, by omega⟩
      rw [List.getElem?_append_right (by show 2 ≤ s + 2; omega)]
      show (flatRh (hdRx (d.map Subtype.val)))[s + 2 - 2]? = _
      rw [Nat.add_sub_cancel, ih s (by simp at h; omega)]
      have h1 : (s + 2) / 2 = s / 2 + 1 := by omega
      have h2 : (s + 2) % 2 = s % 2 := by omega
      rw [h1, h2]
      have h3 : d.toArray[s / 2]! = (p :: d).toArray[s / 2 + 1]! := by simp
      rw [h3]
theorem hd_len (l : List Rx) : (flatRh (hdRx l)).length = l.length * 2 := by rw [flatRh_length]; simp [hdRx]
theorem flatK_X (l : List (OkRx w g)) : flatK encX 2 l.toArray = (flatRh (hdRx (l.map Subtype.val))).toArray := by
  refine ext_get! (by simp [hd_len]) fun t ht => ?_
  have ht' : t < l.length * 2 := by simpa using ht
  rw [get_flatK _ _ _ _ (by simpa using ht'), List.getElem!_eq_getElem?_getD, ← flatX_bang l t ht']
  simp
end
theorem mem_perm_in {l : List Rx} {m : List Rx} (h : m.Perm l) {P : Rx → Prop} (hp : ∀ x ∈ l, P x) : ∀ x ∈ m, P x := fun x hx => hp x (h.mem_iff.1 hx)
set_option maxHeartbeats 1000000 in
theorem sortRx_some (g c n : Nat) (l : List Rx) (w : World) (base : Nat) (hl : l.length = n) (hn : n < 1000) (hown : w.ownsRow base 25 2 (.slice (some ⟨g, 0, none⟩) n c) n (flatRh (hdRx l))) (hok : ∀ x ∈ l, x.ok w ∧ x.off g) :
    Calls Try.prog 24 #[.slice (some ⟨g, 0, none⟩) n c, .func (.func 17) #[] #[]] w fun e w' => e = .returned (.tuple #[]) ∧ (∀ x ∈ sortX l, x.ok w' ∧ x.off g) ∧ w'.ownsRow base 25 2 (.slice (some ⟨g, 0, none⟩) n c) n (flatRh (hdRx (sortX l))) ∧ w.grownBy w' (some g) := by
  obtain ⟨lo, hlo⟩ : ∃ lo : List (OkRx w g), lo.map Subtype.val = l := ⟨l.attach.map fun x => ⟨x.1, hok x.1 x.2⟩, by simp [List.map_map]⟩
  have hll : lo.length = n := by rw [← hl, ← hlo]; simp
  rcases hown.2 with ⟨h0, _⟩ | ⟨g2, cap, cur, e, hbase, hb, h1, h2, h3, h4⟩
  · cases h0
  injection e with e1 e2 e3
  injection e1 with e1
  injection e1 with e1
  subst e1
  subst e3
  have hgl : g < w.heap.size := (Array.getElem?_eq_some_iff.1 hb).1
  have hH : HoldsK encX 2 w g 0 lo.toArray := by
    unfold HoldsK
    rw [flatK_X, hlo]
    exact holds_of_blockV hb (by rw [hd_len, hl]; exact h4)
  have eg : ∀ args w, (callFunc 17 args).run Try.prog w = .ok (.enter 17 args) w := enters_of Try.func17 (by kernel_rfl) rfl
  have hcmp : CmpLays Try.prog 17 #[] (encX (w := w) (g := g)) 2 cfO g 0 lo.toArray.size w := by
    intro m os dk _ x y
    have hgr : w.grownBy (sortWorldK encX 2 w g 0 m dk os) (some g) := grownBy_sortedV _
    obtain ⟨p1, p2, p3⟩ := x.2.1.kept hgr x.2.2
    obtain ⟨q1, q2, q3⟩ := y.2.1.kept hgr y.2.2
    refine (ocmp_grow _ _ _ _ _ _ x.1.d y.1.d x.1.h.t y.1.h.t _ p1 q1 p2 q2 p3 q3 _ rfl).mono ?_
    rintro e w' ⟨rfl, os', rfl⟩
    exact ⟨rfl, 0, os', rfl⟩
  have hcon := sortStable_all encX (fun _ => rfl) (fun x v hv => by simp [encX, Rh.cs] at hv; rcases hv with rfl | rfl <;> rfl) cfO (swo_cmpR (fun x => x.1.h.t) (fun x => x.1.d) cfO fun _ _ => rfl) 17 #[] g 0 c lo.toArray w eg hcmp hH hgl (by simp; omega)
  simp only [List.size_toArray, hll] at hcon
  refine hcon.mono ?_
  rintro e w' ⟨rfl, k, os, rfl⟩
  have hlst : ((Sort.insertionSort (ltOf cfO) lo.toArray 0 n).toList).map Subtype.val = sortX l := by
    unfold sortX
    rw [← Array.toList_map, sort_map]
    simp [hlo, hl]
  have hsz : (sortX l).length = n := by
    rw [← hlst]
    simp only [List.length_map, Array.length_toList]
    rw [size_insertionSort]
    simpa using hll
  have hgr : w.grownBy (sortWorldK encX 2 w g 0 k (Sort.insertionSort (ltOf cfO) lo.toArray 0 n) os) (some g) := grownBy_sortedV _
  refine ⟨rfl, fun x hx => ?_, ?_, hgr⟩
  · rw [← hlst] at hx
    obtain ⟨y, _, rfl⟩ := List.mem_map.1 hx
    exact ⟨y.2.1.kept hgr y.2.2, y.2.2⟩
  · have hk := ownsRow_sortedV (k := 2) (m := k) (os := os) (ts := flatRh (hdRx (sortX l))) (n := n) (by rw [hd_len, hsz]) hbase hb h1 h2 h3
    have ef : flatK encX 2 (Sort.insertionSort (ltOf cfO) lo.toArray 0 n) = (flatRh (hdRx (sortX l))).toArray := by
      rw [← hlst, ← flatK_X]
    unfold sortWorldK putRowK
    rw [ef]
    exact hk
end Go.Proofs.Ytbhhkaaidhapbaa
