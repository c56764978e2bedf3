/- Several texts of mine in one: HeapMath, Heap. No condition. -/
import Derived.Test.YtmbaklodgpcegaaGQ0
import Derived.Test.YtmbaklodgpcegaaChecked

/- A binary heap of pairs as a list: what rises and sinks, told without any program. No condition. -/
namespace Go.Proofs.Ytmbaklodgpcegaa.Hp
abbrev Rd := Int × Int
def ahd (a b : Rd) : Bool := decide (a.2 < b.2 ∨ a.2 = b.2 ∧ a.1 < b.1)
theorem ahd_iff {a b : Rd} : ahd a b = true ↔ a.2 < b.2 ∨ a.2 = b.2 ∧ a.1 < b.1 := by simp [ahd]
theorem ahd_no {a b : Rd} : ahd a b = false ↔ ¬ (a.2 < b.2 ∨ a.2 = b.2 ∧ a.1 < b.1) := by rw [← ahd_iff]; simp
theorem ahd_irr (a : Rd) : ahd a a = false := by rw [ahd_no]; omega
theorem nle_trans {a b c : Rd} (h1 : ahd b a = false) (h2 : ahd c b = false) : ahd c a = false := by
  rw [ahd_no] at *; omega
theorem nle_of_ahd {a b : Rd} (h : ahd a b = true) : ahd b a = false := by
  rw [ahd_iff] at h; rw [ahd_no]; omega
theorem ahd_antisymm {a b : Rd} (h1 : ahd b a = false) (h2 : ahd a b = false) : a = b := by
  rw [ahd_no] at *; exact Prod.ext (by omega) (by omega)
def gt (d : List Rd) (i : Nat) : Rd := d.getD i (0, 0)
def swp (d : List Rd) (i j : Nat) : List Rd := (d.set i (gt d j)).set j (gt d i)
theorem swp_length (d : List Rd) (i j : Nat) : (swp d i j).length = d.length := by simp [swp]
theorem gt_set (d : List Rd) (i k : Nat) (x : Rd) (hi : i < d.length) : gt (d.set i x) k = if k = i then x else gt d k := by
  unfold gt
  rw [List.getD_eq_getElem?_getD, List.getD_eq_getElem?_getD, List.getElem?_set]
  by_cases h : k = i
  · subst h; simp [hi]
  · rw [if_neg (fun e => h e.symm), if_neg h]
theorem gt_swp (d : List Rd) (i j k : Nat) (hi : i < d.length) (hj : j < d.length) : gt (swp d i j) k = if k = j then gt d i else if k = i then gt d j else gt d k := by
  unfold swp
  rw [gt_set _ _ _ _ (by simpa using hj), gt_set _ _ _ _ hi]
theorem gt_mem {d : List Rd} {i : Nat} (h : i < d.length) : gt d i ∈ d := by
  unfold gt; rw [List.getD_eq_getElem?_getD, List.getElem?_eq_getElem h]; simp
theorem gt_elem {d : List Rd} {i : Nat} (h : i < d.length) : d[i]? = some (gt d i) := by
  unfold gt; rw [List.getD_eq_getElem?_getD, List.getElem?_eq_getElem h]; simp
theorem swp_perm (d : List Rd) (i j : Nat) (hi : i < d.length) (hj : j < d.length) : (swp d i j).Perm d := by
  have h := Array.swap_perm (xs := d.toArray) (i := i) (j := j) (by simpa using hi) (by simpa using hj)
  rw [Array.perm_iff_toList_perm] at h
  have e : (d.toArray.swap i j (by simpa using hi) (by simpa using hj)).toList = swp d i j := by
    unfold swp gt
    simp [Array.swap, hi, hj]
  rw [e] at h
  exact h
def isHeap (d : List Rd) : Prop := ∀ j, 0 < j → j < d.length → ahd (gt d j) (gt d ((j - 1) / 2)) = false
/-- The heap but for the one at i and its parent. -/
structure upInv (d : List Rd) (i : Nat) : Prop where
  lt : i < d.length
  rest : ∀ j, 0 < j → j < d.length → j ≠ i → ahd (gt d j) (gt d ((j - 1) / 2)) = false
  kids : ∀ j, 0 < j → j < d.length → (j - 1) / 2 = i → 0 < i → ahd (gt d j) (gt d ((i - 1) / 2)) = false
theorem up_start {d : List Rd} (h : isHeap d) (r : Rd) : upInv (d ++ [r]) d.length := by
  have hg : ∀ k, k < d.length → gt (d ++ [r]) k = gt d k := by
    intro k hk; unfold gt; simp [List.getD_eq_getElem?_getD, List.getElem?_append_left hk]
  refine ⟨by simp, fun j h0 h1 h2 => ?_, fun j h0 h1 h2 _ => ?_⟩
  · simp at h1
    rw [hg _ (by omega), hg _ (by omega)]
    exact h j h0 (by omega)
  · simp at h1; omega
theorem up_end {d : List Rd} {i : Nat} (h : upInv d i) (he : i = 0 ∨ ahd (gt d i) (gt d ((i - 1) / 2)) = false) : isHeap d := by
  intro j h0 h1
  by_cases e : j = i
  · subst e
    rcases he with he | he
    · omega
    · exact he
  · exact h.rest j h0 h1 e
theorem up_step {d : List Rd} {i : Nat} (h : upInv d i) (h0 : 0 < i) (ha : ahd (gt d i) (gt d ((i - 1) / 2)) = true) : upInv (swp d i ((i - 1) / 2)) ((i - 1) / 2) := by
  have hi := h.lt
  have hp : (i - 1) / 2 < d.length := by omega
  have hpi : (i - 1) / 2 < i := by omega
  have G := fun k => gt_swp d i ((i - 1) / 2) k hi hp
  refine ⟨by rw [swp_length]; exact hp, fun j j0 j1 j2 => ?_, fun j j0 j1 j2 p0 => ?_⟩
  · rw [swp_length] at j1
    rw [G, G]
    rw [if_neg j2]
    by_cases e1 : j = i
    · subst e1
      rw [if_pos rfl, if_pos rfl]
      exact nle_of_ahd ha
    · rw [if_neg e1]
      by_cases e2 : (j - 1) / 2 = (i - 1) / 2
      · rw [if_pos e2]
        have := h.rest j j0 j1 e1
        rw [e2] at this
        exact nle_trans (nle_of_ahd ha) this
      · rw [if_neg e2]
        by_cases e3 : (j - 1) / 2 = i
        · rw [if_pos e3]
          exact h.kids j j0 j1 e3 h0
        · rw [if_neg e3]
          exact h.rest j j0 j1 e1
  · rw [swp_length] at j1
    rw [G, G]
    rw [if_neg (by omega : ¬ ((i - 1) / 2 - 1) / 2 = (i - 1) / 2), if_neg (by omega : ¬ ((i - 1) / 2 - 1) / 2 = i)]
    have hpp := h.rest ((i - 1) / 2) p0 hp (by omega)
    by_cases e0 : j = (i - 1) / 2
    · omega
    · rw [if_neg e0]
      by_cases e1 : j = i
      · subst e1; rw [if_pos rfl]; exact hpp
      · rw [if_neg e1]
        have := h.rest j j0 j1 e1
        rw [j2] at this
        exact nle_trans hpp this
structure downInv (d : List Rd) (i : Nat) : Prop where
  rest : ∀ j, 0 < j → j < d.length → (j - 1) / 2 ≠ i → ahd (gt d j) (gt d ((j - 1) / 2)) = false
  kids : ∀ j, 0 < j → j < d.length → (j - 1) / 2 = i → 0 < i → ahd (gt d j) (gt d ((i - 1) / 2)) = false
/-- Which of i and its two kids stands first. -/
def pick (d : List Rd) (i : Nat) : Nat :=
  let a := if 2 * i + 1 < d.length ∧ ahd (gt d (2 * i + 1)) (gt d i) = true then 2 * i + 1 else i
  if 2 * i + 2 < d.length ∧ ahd (gt d (2 * i + 2)) (gt d a) = true then 2 * i + 2 else a
theorem pick_kid (d : List Rd) (i j : Nat) (j0 : 0 < j) (j1 : j < d.length) (j2 : (j - 1) / 2 = i) : ahd (gt d j) (gt d (pick d i)) = false := by
  have hj : j = 2 * i + 1 ∨ j = 2 * i + 2 := by omega
  unfold pick
  dsimp only
  rcases hj with rfl | rfl
  · have key : ∀ a, ahd (gt d (2 * i + 1)) (gt d a) = false → ahd (gt d (2 * i + 1)) (gt d (if 2 * i + 2 < d.length ∧ ahd (gt d (2 * i + 2)) (gt d a) = true then 2 * i + 2 else a)) = false := by
      intro a ha
      split
      · rename_i h; exact nle_trans (nle_of_ahd h.2) ha
      · exact ha
    apply key
    split
    · exact ahd_irr _
    · rename_i h
      have : ¬ ahd (gt d (2 * i + 1)) (gt d i) = true := fun hh => h ⟨j1, hh⟩
      simpa using this
  · by_cases a1 : 2 * i + 1 < d.length ∧ ahd (gt d (2 * i + 1)) (gt d i) = true
    · rw [if_pos a1]
      split
      · exact ahd_irr _
      · rename_i h
        have : ¬ ahd (gt d (2 * i + 2)) (gt d (2 * i + 1)) = true := fun hh => h ⟨j1, hh⟩
        simpa using this
    · rw [if_neg a1]
      split
      · exact ahd_irr _
      · rename_i h
        have : ¬ ahd (gt d (2 * i + 2)) (gt d i) = true := fun hh => h ⟨j1, hh⟩
        simpa using this
theorem pick_self (d : List Rd) (i : Nat) : ahd (gt d i) (gt d (pick d i)) = false := by
  unfold pick
  dsimp only
  by_cases a1 : 2 * i + 1 < d.length ∧ ahd (gt d (2 * i + 1)) (gt d i) = true
  · rw [if_pos a1]
    split
    · rename_i h; exact nle_trans (nle_of_ahd h.2) (nle_of_ahd a1.2)
    · exact nle_of_ahd a1.2
  · rw [if_neg a1]
    split
    · rename_i h; exact nle_of_ahd h.2
    · exact ahd_irr _
theorem pick_cases (d : List Rd) (i : Nat) : pick d i = i ∨ (2 * i + 1 < d.length ∧ pick d i = 2 * i + 1) ∨ (2 * i + 2 < d.length ∧ pick d i = 2 * i + 2) := by
  unfold pick
  dsimp only
  by_cases a1 : 2 * i + 1 < d.length ∧ ahd (gt d (2 * i + 1)) (gt d i) = true
  · rw [if_pos a1]
    split
    · rename_i h; exact .inr (.inr ⟨h.1, rfl⟩)
    · exact .inr (.inl ⟨a1.1, rfl⟩)
  · rw [if_neg a1]
    split
    · rename_i h; exact .inr (.inr ⟨h.1, rfl⟩)
    · exact .inl rfl
theorem down_end {d : List Rd} {i : Nat} (h : downInv d i) (he : pick d i = i) : isHeap d := by
  intro j h0 h1
  by_cases e : (j - 1) / 2 = i
  · have := pick_kid d i j h0 h1 e
    rw [he, ← e] at this
    exact this
  · exact h.rest j h0 h1 e
theorem down_step {d : List Rd} {i : Nat} (h : downInv d i) (hi : i < d.length) (he : pick d i ≠ i) : downInv (swp d i (pick d i)) (pick d i) ∧ i < pick d i ∧ pick d i < d.length ∧ (pick d i - 1) / 2 = i := by
  have hc := pick_cases d i
  have hk := fun j j0 j1 j2 => pick_kid d i j j0 j1 j2
  have hs := pick_self d i
  generalize pick d i = p at *
  have hp : p < d.length := by omega
  have hpp : (p - 1) / 2 = i := by omega
  have hip : i < p := by omega
  have G := fun k => gt_swp d i p k hi hp
  refine ⟨⟨fun j j0 j1 j2 => ?_, fun j j0 j1 j2 _ => ?_⟩, hip, hp, hpp⟩
  · rw [swp_length] at j1
    rw [G, G]
    rw [if_neg j2]
    by_cases e1 : j = p
    · subst e1
      rw [if_pos rfl, if_pos hpp]
      exact hs
    · rw [if_neg e1]
      by_cases e2 : j = i
      · subst e2
        rw [if_pos rfl, if_neg (by omega)]
        exact h.kids p (by omega) hp hpp j0
      · rw [if_neg e2]
        by_cases e3 : (j - 1) / 2 = i
        · rw [if_pos e3]
          exact hk j j0 j1 e3
        · rw [if_neg e3]
          exact h.rest j j0 j1 e3
  · rw [swp_length] at j1
    rw [G, G, hpp]
    rw [if_neg (by omega : ¬ i = p), if_pos rfl, if_neg (by omega : ¬ j = p), if_neg (by omega : ¬ j = i)]
    have := h.rest j j0 j1 (by omega)
    rw [j2] at this
    exact this
theorem heap_min {d : List Rd} (h : isHeap d) : ∀ j, j < d.length → ahd (gt d j) (gt d 0) = false := by
  intro j
  induction j using Nat.strongRecOn with
  | _ j ih =>
    intro hj
    by_cases e : j = 0
    · subst e; exact ahd_irr _
    · exact nle_trans (ih ((j - 1) / 2) (by omega) (by omega)) (h j (by omega) hj)
theorem heap_least {d : List Rd} (h : isHeap d) {x : Rd} (hx : x ∈ d) : ahd x (gt d 0) = false := by
  obtain ⟨i, hi, rfl⟩ := List.getElem_of_mem hx
  have := heap_min h i hi
  have e : gt d i = d[i] := by unfold gt; rw [List.getD_eq_getElem?_getD, List.getElem?_eq_getElem hi]; rfl
  rw [e] at this
  exact this
/-- What Pop starts from: the last one at the head, one less. -/
def cutF (d : List Rd) : List Rd := (d.set 0 (gt d (d.length - 1))).take (d.length - 1)
theorem cut_length (d : List Rd) : (cutF d).length = d.length - 1 := by simp [cutF]
theorem gt_cut (d : List Rd) (k : Nat) (hk : k < d.length - 1) : gt (cutF d) k = if k = 0 then gt d (d.length - 1) else gt d k := by
  rw [← gt_set d 0 k _ (by omega)]
  unfold cutF gt
  rw [List.getD_eq_getElem?_getD, List.getElem?_take_of_lt hk, ← List.getD_eq_getElem?_getD]
theorem cut_down {d : List Rd} (h : isHeap d) : downInv (cutF d) 0 := by
  refine ⟨fun j j0 j1 j2 => ?_, fun j j0 j1 j2 p => by omega⟩
  rw [cut_length] at j1
  rw [gt_cut d j j1, gt_cut d _ (by omega), if_neg (by omega), if_neg j2]
  exact h j j0 (by omega)
theorem cut_perm {d : List Rd} (h : 0 < d.length) : (gt d 0 :: cutF d).Perm d := by
  match d, h with
  | a :: l, _ =>
    rcases List.eq_nil_or_concat l with rfl | ⟨m, b, rfl⟩
    · simp [cutF, gt]
    · have e1 : gt (a :: m.concat b) 0 = a := rfl
      have e2 : cutF (a :: m.concat b) = b :: m := by
        unfold cutF gt
        simp [List.getD_eq_getElem?_getD]
      rw [e1, e2]
      refine List.Perm.cons _ ?_
      rw [List.concat_eq_append]
      exact (List.perm_append_singleton b m).symm
end Go.Proofs.Ytmbaklodgpcegaa.Hp

/- Package heap: contracts of ahead, rise. -/
namespace Go.Proofs.Ytmbaklodgpcegaa
open Go.ChangeShapes Go.WideShapes Go.ChangeAt Go.RowKit Go.Sort Hp
set_option linter.unusedSimpArgs false
set_option linter.unusedVariables false

theorem ahead_any (a b : Int × Int) (w : World) :
    Calls Try.prog 76 #[.agg #[.int .i64 a.1, .int .i64 a.2], .agg #[.int .i64 b.1, .int .i64 b.2]] w fun e w' => e = .returned (.bool (ahd a b)) ∧ Below w.heap.size w w' := by
  obtain ⟨an, aa⟩ := a
  obtain ⟨bn, ba⟩ := b
  by_cases h1 : aa < ba
  · go_enter Try.func76, Try.ntmps76
    go_wp2
    all_goals go_ret
    all_goals exact ⟨by simp [ahd, h1], by (repeat (first | exact Below.refl _ _ | refine Below.alloc ?_ (by first | omega | (simp; done) | (simp; omega)) _ | refine Below.setCell ?_ (by first | omega | (simp; done) | (simp; omega)) _ | refine Below.drew ?_))⟩
  · by_cases h2 : aa = ba
    · subst h2
      by_cases h3 : an < bn
      all_goals
        go_enter Try.func76, Try.ntmps76
        go_wp2
        all_goals go_ret
        all_goals exact ⟨by simp [ahd, h3], by (repeat (first | exact Below.refl _ _ | refine Below.alloc ?_ (by first | omega | (simp; done) | (simp; omega)) _ | refine Below.setCell ?_ (by first | omega | (simp; done) | (simp; omega)) _ | refine Below.drew ?_))⟩
    · have h2' : (aa == ba) = false := by simpa using h2
      go_enter Try.func76, Try.ntmps76
      go_wp2
      all_goals go_ret
      all_goals exact ⟨by simp [ahd, h1, h2], by (repeat (first | exact Below.refl _ _ | refine Below.alloc ?_ (by first | omega | (simp; done) | (simp; omega)) _ | refine Below.setCell ?_ (by first | omega | (simp; done) | (simp; omega)) _ | refine Below.drew ?_))⟩
end Go.Proofs.Ytmbaklodgpcegaa
