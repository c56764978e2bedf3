/- The sizes of what the stable sort makes; symMerge's third way, piece by piece. Plain facts. No condition. -/
import Derived.Test.YtbhhkaaidhapbaaSymStab
namespace Go.Proofs.Ytbhhkaaidhapbaa
open Go.Sort
set_option linter.unusedSimpArgs false
set_option linter.unusedVariables false
section
variable {α : Type} [Inhabited α]
theorem size_shUp (d : Array α) (a : Nat) : ∀ n, (shUp d a n).size = d.size
  | 0 => rfl
  | n + 1 => by unfold shUp; rw [size_swp, size_shUp d a n]
theorem size_shDn (d : Array α) (m : Nat) : ∀ n, (shDn d m n).size = d.size
  | 0 => rfl
  | n + 1 => by unfold shDn; rw [size_swp, size_shDn d m n]
theorem size_rot (m : Nat) : ∀ (s i j : Nat) (d : Array α), i + j ≤ s → (rot m i j d).size = d.size
  | 0, i, j, d, h => by unfold rot; rw [dif_neg (by omega)]
  | s + 1, i, j, d, h => by
    by_cases c : 0 < i ∧ 0 < j
    · rw [rot_eq m i j d c]
      by_cases e : i = j
      · rw [if_pos e, size_swapR]
      · rw [if_neg e]
        by_cases g : j < i
        · rw [if_pos g, size_rot m s _ _ _ (by omega), size_swapR]
        · rw [if_neg g, size_rot m s _ _ _ (by omega), size_swapR]
    · unfold rot; rw [dif_neg c]
theorem symM_mid (lt : α → α → Bool) (f : Nat) (d : Array α) (a m b mid n s en : Nat) (h0 : ¬ m - a = 1) (h1 : ¬ b - m = 1) (hmid : (a + b) / 2 = mid) (hn : mid + m = n) (hs : bsr (fun c => lt d[n - 1 - c]! d[c]!) (if mid < m then n - b else a) (if mid < m then mid else m) = s) (hen : n - s = en)
    (d1 d2 d3 : Array α) (e1 : d1 = if s < m ∧ m < en then rot m (m - s) (en - m) d else d) (e2 : d2 = if a < s ∧ s < mid then symM lt f d1 a s mid else d1) (e3 : d3 = if mid < en ∧ en < b then symM lt f d2 mid en b else d2) : symM lt (f + 1) d a m b = d3 := by
  subst e3 e2 e1 hen hs hn hmid
  rw [symM, if_neg h0, if_neg h1]
theorem size_symM (lt : α → α → Bool) : ∀ (f : Nat) (d : Array α) (a m b : Nat), (symM lt f d a m b).size = d.size
  | 0, _, _, _, _ => rfl
  | f + 1, d, a, m, b => by
    by_cases h0 : m - a = 1
    · rw [symM, if_pos h0, size_shUp]
    · by_cases h1 : b - m = 1
      · rw [symM, if_neg h0, if_pos h1, size_shDn]
      · rw [symM_mid lt f d a m b _ _ _ _ h0 h1 rfl rfl rfl rfl _ _ _ rfl rfl rfl]
        have k1 : ∀ (x : Prop) [Decidable x] (u v w' : Nat) (d' : Array α), (if x then rot u v w' d' else d').size = d'.size := fun x _ u v w' d' => by
          by_cases hx : x
          · rw [if_pos hx, size_rot u _ _ _ _ (Nat.le_refl _)]
          · rw [if_neg hx]
        have k2 : ∀ (x : Prop) [Decidable x] (u v w' : Nat) (d' : Array α), (if x then symM lt f d' u v w' else d').size = d'.size := fun x _ u v w' d' => by
          by_cases hx : x
          · rw [if_pos hx, size_symM lt f]
          · rw [if_neg hx]
        rw [k2, k2, k1]
theorem insB_stop {lt : α → α → Bool} {n bs f a : Nat} {d : Array α} (h : ¬ a + bs ≤ n) : insB lt n bs (f + 1) a d = insertionSort lt d a n := by rw [insB, if_neg h]
theorem insB_go {lt : α → α → Bool} {n bs f a : Nat} {d : Array α} (h : a + bs ≤ n) : insB lt n bs (f + 1) a d = insB lt n bs f (a + bs) (insertionSort lt d a (a + bs)) := by rw [insB, if_pos h]
theorem mrgB_go {lt : α → α → Bool} {n bs f a : Nat} {d : Array α} (h : a + 2 * bs ≤ n) : mrgB lt n bs (f + 1) a d = mrgB lt n bs f (a + 2 * bs) (symM lt (2 * bs) d a (a + bs) (a + 2 * bs)) := by rw [mrgB, if_pos h]
theorem mrgB_last {lt : α → α → Bool} {n bs f a : Nat} {d : Array α} (h : ¬ a + 2 * bs ≤ n) (h2 : a + bs < n) : mrgB lt n bs (f + 1) a d = symM lt (2 * bs) d a (a + bs) n := by rw [mrgB, if_neg h, if_pos h2]
theorem mrgB_stop {lt : α → α → Bool} {n bs f a : Nat} {d : Array α} (h : ¬ a + 2 * bs ≤ n) (h2 : ¬ a + bs < n) : mrgB lt n bs (f + 1) a d = d := by rw [mrgB, if_neg h, if_neg h2]
theorem stabB_go {lt : α → α → Bool} {n bs f : Nat} {d : Array α} (h : bs < n) : stabB lt n (f + 1) bs d = stabB lt n f (2 * bs) (mrgB lt n bs (n + 1) 0 d) := by rw [stabB, if_pos h]
theorem stabB_stop {lt : α → α → Bool} {n bs f : Nat} {d : Array α} (h : ¬ bs < n) : stabB lt n (f + 1) bs d = d := by rw [stabB, if_neg h]
/-- There is but one stable order: the merging sort is the insertion sort. -/
theorem stableA_ins {lt : α → α → Bool} (hs : Swo lt) (d : Array α) : stableA lt d.size d = insertionSort lt d 0 d.size := by
  obtain ⟨a1, _, a3⟩ := stableA_good hs d (Nat.le_refl _)
  obtain ⟨b1, _, b3⟩ := ins_good hs d (Nat.zero_le d.size) (Nat.le_refl _)
  have e : seg (stableA lt d.size d) 0 (d.size - 0) = seg (insertionSort lt d 0 d.size) 0 (d.size - 0) := Stab.one hs a3 b3
  refine Array.ext (a1.trans b1.symm) fun i h1 h2 => ?_
  have h3 := List.getElem_of_eq e (i := i) (by rw [seg_len]; omega)
  rw [seg_get, seg_get, Nat.zero_add] at h3
  rw [getElem!_pos (stableA lt d.size d) i h1, getElem!_pos (insertionSort lt d 0 d.size) i h2] at h3
  exact h3
end
end Go.Proofs.Ytbhhkaaidhapbaa
