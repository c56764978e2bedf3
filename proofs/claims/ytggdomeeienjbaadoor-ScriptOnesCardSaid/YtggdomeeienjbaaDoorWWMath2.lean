
/- Facts of words: what they hold, what stands behind a remark, texts with a blank between. No condition. -/
import Derived.Test.YtggdomeeienjbaaDoorWRef
namespace Go.Proofs.YtggdomeeienjbaaDoor
open Go.ChangeShapes Go.WideShapes Go.ChangeAt Go.RowKit Go.Sort
set_option linter.unusedSimpArgs false
set_option linter.unusedVariables false
def wordy (x : Bytes) : Prop := x ≠ [] ∧ ∀ c ∈ x, blankC c = false ∧ c ≠ 35
theorem foldW_wordy : ∀ (s : Bytes) (o : List Bytes) (cur : Bytes), (∀ c ∈ s, c ≠ 35) → (∀ x ∈ o, wordy x) → (∀ c ∈ cur, blankC c = false ∧ c ≠ 35) →
    (∀ x ∈ (s.foldl stW (o, cur)).1, wordy x) ∧ ∀ c ∈ (s.foldl stW (o, cur)).2, blankC c = false ∧ c ≠ 35
  | [], o, cur, _, h1, h2 => ⟨h1, h2⟩
  | c :: r, o, cur, h0, h1, h2 => by
    rw [List.foldl_cons]
    have h0' : ∀ c ∈ r, c ≠ 35 := fun q hq => h0 q (List.mem_cons_of_mem _ hq)
    cases h : blankC c with
    | true =>
      rw [stW_blank h]
      split
      · exact foldW_wordy r o [] h0' h1 (by simp)
      · rename_i hc
        exact foldW_wordy r (o ++ [cur]) [] h0' (fun x hx => by
          rcases List.mem_append.1 hx with hx | hx
          · exact h1 x hx
          · simp at hx; subst hx; exact ⟨hc, h2⟩) (by simp)
    | false =>
      rw [stW_other h]
      exact foldW_wordy r o (cur ++ [c]) h0' h1 (fun q hq => by
        rcases List.mem_append.1 hq with hq | hq
        · exact h2 q hq
        · simp at hq; subst hq; exact ⟨h, h0 q (List.mem_cons_self ..)⟩)
theorem hash_ne (s : Bytes) : ∀ c ∈ hashL s, c ≠ 35 := fun c hc => by
  have := List.all_takeWhile (p := fun c : UInt8 => c != 35) (l := s)
  have := List.all_eq_true.1 this c hc
  simpa using this
theorem words_wordy (s : Bytes) : ∀ x ∈ wordsL s, wordy x := by
  obtain ⟨h1, h2⟩ := foldW_wordy (hashL s) [] [] (hash_ne s) (by simp) (by simp)
  unfold wordsL finS
  split
  · exact h1
  · rename_i hc
    intro x hx
    rcases List.mem_append.1 hx with hx | hx
    · exact h1 x hx
    · simp at hx; subst hx; exact ⟨hc, h2⟩
theorem hash_append_hash (s t : Bytes) : hashL (s ++ [35] ++ t) = hashL s := by
  unfold hashL
  induction s with
  | nil => simp
  | cons c r ih =>
    by_cases h : c = 35
    · subst h; simp
    · simp only [List.cons_append, List.takeWhile_cons]
      rw [if_pos (by simpa using h), if_pos (by simpa using h)]
      exact congrArg (c :: ·) ih
theorem words_remark (s t : Bytes) : wordsL (s ++ [35] ++ t) = wordsL s := by unfold wordsL; rw [hash_append_hash]
theorem hash_none {s : Bytes} (h : ∀ c ∈ s, c ≠ 35) (t : Bytes) : hashL (s ++ t) = s ++ hashL t := by
  unfold hashL
  induction s with
  | nil => rfl
  | cons c r ih =>
    simp only [List.cons_append, List.takeWhile_cons]
    rw [if_pos (by simpa using h c (List.mem_cons_self ..)), ih (fun q hq => h q (List.mem_cons_of_mem _ hq))]
/-- What stands behind, whatever stood ahead. -/
theorem foldW_ahead : ∀ (s : Bytes) (o p : List Bytes) (cur : Bytes), s.foldl stW (o ++ p, cur) = (o ++ (s.foldl stW (p, cur)).1, (s.foldl stW (p, cur)).2)
  | [], o, p, cur => rfl
  | c :: r, o, p, cur => by
    rw [List.foldl_cons, List.foldl_cons]
    cases h : blankC c with
    | true =>
      rw [stW_blank h, stW_blank h]
      split
      · exact foldW_ahead r o p []
      · rw [List.append_assoc]; exact foldW_ahead r o (p ++ [cur]) []
    | false => rw [stW_other h, stW_other h]; exact foldW_ahead r o p (cur ++ [c])
theorem stW_fin {c : UInt8} (h : blankC c = true) (st : Pcs) : stW st c = (finS st, []) := by
  obtain ⟨o, cur⟩ := st
  rw [stW_blank h]
  unfold finS
  split <;> rfl
theorem fin_ahead (o : List Bytes) (st : Pcs) : finS (o ++ st.1, st.2) = o ++ finS st := by
  unfold finS
  simp only
  split
  · rfl
  · rw [List.append_assoc]
theorem words_cut {s t : Bytes} (h : ∀ c ∈ s, c ≠ 35) {b : UInt8} (hb : blankC b = true) (hb2 : b ≠ 35) : wordsL (s ++ [b] ++ t) = wordsL s ++ wordsL t := by
  have h2 : ∀ c ∈ s ++ [b], c ≠ 35 := fun c hc => by
    rcases List.mem_append.1 hc with hc | hc
    · exact h c hc
    · simp at hc; subst hc; exact hb2
  have e1 : hashL s = s := by have := hash_none h []; simpa [hashL] using this
  unfold wordsL
  rw [hash_none h2, e1, List.foldl_append, List.foldl_append, List.foldl_cons, List.foldl_nil, stW_fin hb]
  have := foldW_ahead (hashL t) (finS (s.foldl stW ([], []))) [] []
  rw [List.append_nil] at this
  rw [this, fin_ahead]
theorem words_blanks (s : Bytes) : wordsL ([32] ++ s ++ [9]) = wordsL s := by
  have h1 : ∀ u : Bytes, wordsL ([32] ++ u) = wordsL u := fun u => by
    have := words_cut (s := []) (t := u) (by simp) (b := 32) (by decide) (by decide)
    rw [List.nil_append] at this
    rw [this]
    rfl
  rw [List.append_assoc, h1]
  by_cases h : ∀ c ∈ s, c ≠ 35
  · have := words_cut (s := s) (t := []) h (b := 9) (by decide) (by decide)
    rw [List.append_nil] at this
    rw [this]
    show wordsL s ++ [] = _
    rw [List.append_nil]
  · have hm : (35 : UInt8) ∈ s := by
      refine Classical.byContradiction fun hc => h (fun c hc2 e => hc (e ▸ hc2))
    obtain ⟨a, b, rfl⟩ := List.append_of_mem hm
    have e1 : a ++ 35 :: b ++ [9] = a ++ [35] ++ (b ++ [9]) := by simp
    have e2 : a ++ 35 :: b = a ++ [35] ++ b := by simp
    rw [e1, words_remark, e2, words_remark]
end Go.Proofs.YtggdomeeienjbaaDoor
