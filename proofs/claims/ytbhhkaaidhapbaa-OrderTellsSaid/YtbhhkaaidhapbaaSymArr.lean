/- Merging in place (SymMerge), as slices' symMergeCmpFunc, rotateCmpFunc, swapRangeCmpFunc do it: over arrays. Plain facts. No condition. -/
import Derived.Test.YtbhhkaaidhapbaaSymMath
import Derived.Sort.LotA
namespace Go.Proofs.Ytbhhkaaidhapbaa
open Go.Sort
set_option linter.unusedSimpArgs false
set_option linter.unusedVariables false
section
variable {α : Type} [Inhabited α]
theorem bang_set (d : Array α) (i k : Nat) (v : α) (hi : i < d.size) : (d.setIfInBounds i v)[k]! = if k = i then v else d[k]! := by
  rw [Array.getElem!_eq_getD, Array.getElem!_eq_getD, Array.getD_eq_getD_getElem?, Array.getD_eq_getD_getElem?, Array.getElem?_setIfInBounds]
  by_cases h : k = i
  · subst h
    rw [if_pos rfl, if_pos rfl, if_pos hi]
    rfl
  · rw [if_neg (fun e => h e.symm), if_neg h]
theorem size_swp (d : Array α) (i j : Nat) : (swp d i j).size = d.size := by unfold swp; simp
theorem bang_swp (d : Array α) (i j k : Nat) (hi : i < d.size) (hj : j < d.size) : (swp d i j)[k]! = if k = j then d[i]! else if k = i then d[j]! else d[k]! := by
  unfold swp
  rw [bang_set _ _ _ _ (by simpa using hj), bang_set _ _ _ _ hi]
/-- A part of a row. -/
def seg (d : Array α) (a n : Nat) : List α := (List.range n).map fun k => d[a + k]!
theorem seg_len (d : Array α) (a n : Nat) : (seg d a n).length = n := by unfold seg; simp
theorem seg_get (d : Array α) (a n i : Nat) (h : i < (seg d a n).length) : (seg d a n)[i] = d[a + i]! := by
  have h1 : i < n := by rw [seg_len] at h; exact h
  have h2 : (seg d a n)[i]? = some d[a + i]! := by
    unfold seg
    rw [List.getElem?_map, List.getElem?_range h1]
    rfl
  exact (List.getElem?_eq_some_iff.1 h2).2
theorem seg_congr {d d' : Array α} {a a' n : Nat} (h : ∀ k, k < n → d'[a' + k]! = d[a + k]!) : seg d' a' n = seg d a n := by
  unfold seg
  exact List.map_congr_left fun k hk => h k (List.mem_range.1 hk)
theorem seg_app (d : Array α) (a x y : Nat) : seg d a (x + y) = seg d a x ++ seg d (a + x) y := by
  unfold seg
  rw [List.range_add, List.map_append, List.map_map]
  congr 1
  exact List.map_congr_left fun k _ => by simp [Nat.add_assoc]
theorem seg_zero (d : Array α) (a : Nat) : seg d a 0 = [] := rfl
theorem seg_one (d : Array α) (a : Nat) : seg d a 1 = [d[a]!] := rfl
theorem seg_mem {d : Array α} {a n : Nat} {x : α} : x ∈ seg d a n ↔ ∃ k, k < n ∧ x = d[a + k]! := by
  unfold seg
  rw [List.mem_map]
  constructor
  · rintro ⟨k, hk, rfl⟩; exact ⟨k, List.mem_range.1 hk, rfl⟩
  · rintro ⟨k, hk, rfl⟩; exact ⟨k, List.mem_range.2 hk, rfl⟩
theorem ord_seg {lt : α → α → Bool} {d : Array α} {a n : Nat} : Ord lt (seg d a n) ↔ ∀ i j, i < j → j < n → lt d[a + j]! d[a + i]! = false := by
  unfold Ord
  rw [List.pairwise_iff_getElem]
  constructor
  · intro h i j hij hj
    have := h i j (by rw [seg_len]; omega) (by rw [seg_len]; omega) hij
    rwa [seg_get, seg_get] at this
  · intro h i j hi hj hij
    rw [seg_get, seg_get]
    rw [seg_len] at hj
    exact h i j hij hj
/-- 'for i := 0; i < n; i++ { data[a+i], data[b+i] = data[b+i], data[a+i] }': behind n rounds. -/
def swapR (d : Array α) (a b : Nat) : Nat → Array α
  | 0 => d
  | n + 1 => swp (swapR d a b n) (a + n) (b + n)
theorem size_swapR (d : Array α) (a b : Nat) : ∀ n, (swapR d a b n).size = d.size
  | 0 => rfl
  | n + 1 => by unfold swapR; rw [size_swp, size_swapR d a b n]
theorem bang_swapR (d : Array α) (a b : Nat) : ∀ n, a + n ≤ b → b + n ≤ d.size → ∀ k, (swapR d a b n)[k]! = if a ≤ k ∧ k < a + n then d[k - a + b]! else if b ≤ k ∧ k < b + n then d[k - b + a]! else d[k]!
  | 0, _, _, k => by rw [if_neg (by omega), if_neg (by omega)]; rfl
  | n + 1, h1, h2, k => by
    have ih := bang_swapR d a b n (by omega) (by omega)
    show (swp (swapR d a b n) (a + n) (b + n))[k]! = _
    rw [bang_swp _ _ _ _ (by rw [size_swapR]; omega) (by rw [size_swapR]; omega), ih, ih, ih]
    by_cases e1 : k = b + n
    · subst e1
      rw [if_pos rfl, if_neg (by omega), if_neg (by omega), if_neg (by omega), if_pos (by omega)]
      congr 1; omega
    · rw [if_neg e1]
      by_cases e2 : k = a + n
      · subst e2
        rw [if_pos rfl, if_neg (by omega), if_neg (by omega), if_pos (by omega)]
        congr 1; omega
      · rw [if_neg e2]
        by_cases c1 : a ≤ k ∧ k < a + n
        · rw [if_pos c1, if_pos (by omega)]
        · rw [if_neg c1]
          by_cases c2 : b ≤ k ∧ k < b + n
          · rw [if_pos c2, if_neg (by omega), if_pos (by omega)]
          · rw [if_neg c2, if_neg (by omega), if_neg (by omega)]
/-- rotate's loop: two parts beside place m, i and j long, change places. -/
def rot (m i j : Nat) (d : Array α) : Array α :=
  if h : 0 < i ∧ 0 < j then
    if i = j then swapR d (m - i) m i
    else if j < i then rot m (i - j) j (swapR d (m - i) m j)
    else rot m i (j - i) (swapR d (m - i) (m + j - i) i)
  else d
termination_by i + j
theorem rot_eq (m i j : Nat) (d : Array α) (h : 0 < i ∧ 0 < j) : rot m i j d = if i = j then swapR d (m - i) m i else if j < i then rot m (i - j) j (swapR d (m - i) m j) else rot m i (j - i) (swapR d (m - i) (m + j - i) i) := by
  conv => lhs; unfold rot
  rw [dif_pos h]
theorem rot_spec (m : Nat) : ∀ (s i j : Nat) (d : Array α), i + j ≤ s → 0 < i → 0 < j → i ≤ m → m + j ≤ d.size → (rot m i j d).size = d.size ∧ ∀ k, (rot m i j d)[k]! = if m - i ≤ k ∧ k < m - i + j then d[k + i]! else if m - i + j ≤ k ∧ k < m + j then d[k - j]! else d[k]!
  | 0, i, j, d, h, hi, hj, _, _ => by omega
  | s + 1, i, j, d, h, hi, hj, him, hb => by
    rw [rot_eq m i j d ⟨hi, hj⟩]
    by_cases e : i = j
    · subst e
      rw [if_pos rfl]
      refine ⟨size_swapR _ _ _ _, fun k => ?_⟩
      rw [bang_swapR _ _ _ _ (by omega) (by omega)]
      by_cases c1 : m - i ≤ k ∧ k < m - i + i
      · rw [if_pos c1, if_pos c1]; congr 1; omega
      · rw [if_neg c1, if_neg c1]
        by_cases c2 : m ≤ k ∧ k < m + i
        · rw [if_pos c2, if_pos (by omega)]; congr 1; omega
        · rw [if_neg c2, if_neg (by omega)]
    · rw [if_neg e]
      by_cases g : j < i
      · rw [if_pos g]
        obtain ⟨ih1, ih2⟩ := rot_spec m s (i - j) j (swapR d (m - i) m j) (by omega) (by omega) hj (by omega) (by rw [size_swapR]; exact hb)
        refine ⟨by rw [ih1, size_swapR], fun k => ?_⟩
        have hsw := bang_swapR d (m - i) m j (by omega) (by omega)
        rw [ih2 k, hsw, hsw, hsw]
        by_cases c1 : m - i ≤ k ∧ k < m - i + j
        · rw [if_neg (by omega), if_neg (by omega), if_pos (by omega), if_pos c1]; congr 1; omega
        · by_cases c2 : m - i + j ≤ k ∧ k < m - i + j + j
          · rw [if_pos (by omega), if_neg (by omega), if_pos (by omega), if_neg c1, if_pos (by omega)]; congr 1; omega
          · by_cases c3 : m - i + j + j ≤ k ∧ k < m + j
            · rw [if_neg (by omega), if_pos (by omega), if_neg (by omega), if_neg (by omega), if_neg c1, if_pos (by omega)]
            · rw [if_neg (by omega), if_neg (by omega), if_neg (by omega), if_neg (by omega), if_neg c1, if_neg (by omega)]
      · rw [if_neg g]
        obtain ⟨ih1, ih2⟩ := rot_spec m s i (j - i) (swapR d (m - i) (m + j - i) i) (by omega) hi (by omega) him (by rw [size_swapR]; omega)
        refine ⟨by rw [ih1, size_swapR], fun k => ?_⟩
        have hsw := bang_swapR d (m - i) (m + j - i) i (by omega) (by omega)
        rw [ih2 k, hsw, hsw, hsw]
        by_cases c1 : m - i ≤ k ∧ k < m - i + (j - i)
        · rw [if_pos (by omega), if_neg (by omega), if_neg (by omega), if_pos (by omega)]
        · by_cases c2 : m - i + (j - i) ≤ k ∧ k < m + (j - i)
          · rw [if_neg (by omega), if_pos (by omega), if_pos (by omega), if_pos (by omega)]; congr 1; omega
          · by_cases c3 : m + j - i ≤ k ∧ k < m + j
            · rw [if_neg (by omega), if_neg (by omega), if_neg (by omega), if_pos (by omega), if_neg (by omega), if_pos (by omega)]; congr 1; omega
            · rw [if_neg (by omega), if_neg (by omega), if_neg (by omega), if_neg (by omega), if_neg (by omega), if_neg (by omega)]
/-- The binary search: where p begins to hold. -/
def bsr (p : Nat → Bool) (i j : Nat) : Nat :=
  if i < j then (if p ((i + j) / 2) = true then bsr p i ((i + j) / 2) else bsr p ((i + j) / 2 + 1) j) else i
termination_by j - i
theorem bsr_eq (p : Nat → Bool) (i j : Nat) : bsr p i j = if i < j then (if p ((i + j) / 2) = true then bsr p i ((i + j) / 2) else bsr p ((i + j) / 2 + 1) j) else i := by
  conv => lhs; unfold bsr
theorem bsr_spec (p : Nat → Bool) : ∀ (s i j : Nat), j - i ≤ s → i ≤ j → (∀ h h', i ≤ h → h ≤ h' → h' < j → p h = true → p h' = true) → i ≤ bsr p i j ∧ bsr p i j ≤ j ∧ (∀ h, i ≤ h → h < bsr p i j → p h = false) ∧ (∀ h, bsr p i j ≤ h → h < j → p h = true)
  | 0, i, j, hs, hij, _ => by
    rw [bsr_eq, if_neg (by omega)]
    exact ⟨Nat.le_refl _, hij, fun h h1 h2 => by omega, fun h h1 h2 => by omega⟩
  | s + 1, i, j, hs, hij, hm => by
    rw [bsr_eq]
    by_cases hlt : i < j
    · rw [if_pos hlt]
      by_cases hp : p ((i + j) / 2) = true
      · rw [if_pos hp]
        obtain ⟨h1, h2, h3, h4⟩ := bsr_spec p s i ((i + j) / 2) (by omega) (by omega) (fun h h' a b c => hm h h' a b (by omega))
        refine ⟨h1, by omega, h3, fun h a b => ?_⟩
        by_cases c : h < (i + j) / 2
        · exact h4 h a c
        · exact hm _ h (by omega) (by omega) b hp
      · rw [if_neg hp]
        obtain ⟨h1, h2, h3, h4⟩ := bsr_spec p s ((i + j) / 2 + 1) j (by omega) (by omega) (fun h h' a b c => hm h h' (by omega) b c)
        refine ⟨by omega, h2, fun h a b => ?_, h4⟩
        by_cases c : (i + j) / 2 + 1 ≤ h
        · exact h3 h c b
        · cases hq : p h with
          | false => rfl
          | true => exact absurd (hm h ((i + j) / 2) a (by omega) (by omega) hq) hp
    · rw [if_neg hlt]
      exact ⟨Nat.le_refl _, hij, fun h h1 h2 => by omega, fun h h1 h2 => by omega⟩
/-- 'for k := a; ..; k++ { data[k], data[k+1] = data[k+1], data[k] }': behind n rounds. -/
def shUp (d : Array α) (a : Nat) : Nat → Array α
  | 0 => d
  | n + 1 => swp (shUp d a n) (a + n) (a + n + 1)
theorem shUp_spec (d : Array α) (a : Nat) : ∀ n, a + n < d.size → (shUp d a n).size = d.size ∧ ∀ k, (shUp d a n)[k]! = if a ≤ k ∧ k < a + n then d[k + 1]! else if k = a + n then d[a]! else d[k]!
  | 0, _ => ⟨rfl, fun k => by
    rw [if_neg (by omega)]
    by_cases e : k = a + 0
    · rw [if_pos e, e]; rfl
    · rw [if_neg e]; rfl⟩
  | n + 1, h => by
    obtain ⟨h1, h2⟩ := shUp_spec d a n (by omega)
    refine ⟨by show (swp _ _ _).size = _; rw [size_swp, h1], fun k => ?_⟩
    show (swp (shUp d a n) (a + n) (a + n + 1))[k]! = _
    rw [bang_swp _ _ _ _ (by omega) (by omega), h2, h2, h2]
    by_cases e1 : k = a + n + 1
    · rw [if_pos e1, if_neg (by omega), if_pos rfl, if_neg (by omega), if_pos (by omega)]
    · rw [if_neg e1]
      by_cases e2 : k = a + n
      · subst e2
        rw [if_pos rfl, if_neg (by omega), if_neg (by omega), if_pos (by omega)]
      · rw [if_neg e2]
        by_cases c1 : a ≤ k ∧ k < a + n
        · rw [if_pos c1, if_pos (by omega)]
        · rw [if_neg c1, if_neg e2, if_neg (by omega), if_neg (by omega)]
/-- 'for k := m; ..; k-- { data[k], data[k-1] = data[k-1], data[k] }': behind n rounds. -/
def shDn (d : Array α) (m : Nat) : Nat → Array α
  | 0 => d
  | n + 1 => swp (shDn d m n) (m - n) (m - n - 1)
theorem shDn_spec (d : Array α) (m : Nat) : ∀ n, n ≤ m → m < d.size → (shDn d m n).size = d.size ∧ ∀ k, (shDn d m n)[k]! = if m - n < k ∧ k ≤ m then d[k - 1]! else if k = m - n then d[m]! else d[k]!
  | 0, _, _ => ⟨rfl, fun k => by
    rw [if_neg (by omega)]
    by_cases e : k = m - 0
    · rw [if_pos e, e]; rfl
    · rw [if_neg e]; rfl⟩
  | n + 1, h, hm => by
    obtain ⟨h1, h2⟩ := shDn_spec d m n (by omega) hm
    refine ⟨by show (swp _ _ _).size = _; rw [size_swp, h1], fun k => ?_⟩
    show (swp (shDn d m n) (m - n) (m - n - 1))[k]! = _
    rw [bang_swp _ _ _ _ (by omega) (by omega), h2, h2, h2]
    by_cases e1 : k = m - n - 1
    · rw [if_pos e1, if_neg (by omega), if_pos rfl, if_neg (by omega), if_pos (by omega)]
    · rw [if_neg e1]
      by_cases e2 : k = m - n
      · subst e2
        rw [if_pos rfl, if_neg (by omega), if_neg (by omega), if_pos (by omega)]
      · rw [if_neg e2]
        by_cases c1 : m - n < k ∧ k ≤ m
        · rw [if_pos c1, if_pos (by omega)]
        · rw [if_neg c1, if_neg e2, if_neg (by omega), if_neg (by omega)]
end
end Go.Proofs.Ytbhhkaaidhapbaa
