
/- A small case of lines and words. -/
import Derived.Test.YtggdomeeienjbaaGreatDoorWLine
import Derived.Test.YtggdomeeienjbaaGreatDoorWWords
namespace Go.Proofs.YtggdomeeienjbaaGreatDoor
open Go.ChangeShapes Go.WideShapes Go.ChangeAt Go.RowKit Go.Sort
set_option linter.unusedSimpArgs false
set_option linter.unusedVariables false
theorem is_of_own {w w' : World} {base : Nat} {v : Value} {d : List Bytes} (h : w.ownsRow base 9 1 v d.length (vs d)) : ∃ A c, v = .slice A d.length c := by
  obtain ⟨A, c, e⟩ := slice_of_own h
  exact ⟨A, c, e⟩
theorem lines_is (s0 : ByteArray) (d : List Bytes) (n : Nat) (h : linesL s0.data.toList = d) (hn : d.length = n) (w : World) (hm : MaxAt w) (hs : s0.data.toList.length ≤ 2000000) :
    Calls Tryz.prog 11 #[.string s0] w fun e w' => ∃ A c, e = .returned (.slice A n c) ∧ w'.ownsRow w.heap.size 9 1 (.slice A n c) n (vs d) ∧ Below w.heap.size w w' := by
  subst h hn
  refine (lines_any s0 _ rfl w hm hs).mono ?_
  rintro e w1 ⟨v, rfl, hv, hb⟩
  obtain ⟨A, c, rfl⟩ := slice_of_own hv
  exact ⟨A, c, rfl, hv, hb⟩
theorem words_is (s0 : ByteArray) (d : List Bytes) (n : Nat) (h : wordsL s0.data.toList = d) (hn : d.length = n) (w : World) (hm : MaxAt w) (hs : s0.data.toList.length ≤ 100000) :
    Calls Tryz.prog 12 #[.string s0] w fun e w' => ∃ A c, e = .returned (.slice A n c) ∧ w'.ownsRow w.heap.size 9 1 (.slice A n c) n (vs d) ∧ Below w.heap.size w w' := by
  subst h hn
  refine (words_any s0 _ rfl w hm hs).mono ?_
  rintro e w1 ⟨v, rfl, hv, hb⟩
  obtain ⟨A, c, rfl⟩ := slice_of_own hv
  exact ⟨A, c, rfl, hv, hb⟩
theorem line_is (A : Option Addr) (n c : Nat) (d : List Bytes) (r : ByteArray) (hr : bs (lineL d) = r) (w : World) (hd : d.length = n) (hn : n ≤ 1000) (hb : ∀ x ∈ d, x.length ≤ 1000) (h : Sl w w.heap.size 1 A n c (vs d)) :
    Calls Tryz.prog 61 #[.slice A n c] w fun e w' => e = .returned (.string r) ∧ Below w.heap.size w w' := by
  subst hr; exact line_any A n c d w hd hn hb h
theorem fin_len (st : Pcs) : (finS st).length ≤ st.1.length + 1 := by unfold finS; split <;> simp
theorem foldL_len : ∀ (s : Bytes) (o : List Bytes) (cur : Bytes), (s.foldl stL (o, cur)).1.length ≤ o.length + s.length
  | [], o, cur => by simp
  | c :: r, o, cur => by
    rw [List.foldl_cons]
    by_cases h : c = 10
    · subst h; rw [stL_ten]; have := foldL_len r (o ++ [cur]) []; simp at this ⊢; omega
    · rw [stL_other h]; have := foldL_len r o (cur ++ [c]); simp at this ⊢; omega
theorem lines_len (s : Bytes) : (linesL s).length ≤ s.length + 1 := by
  unfold linesL
  have h1 := fin_len (s.foldl stL ([], []))
  have h2 := foldL_len s [] []
  simp at h2
  omega
theorem foldW_len : ∀ (s : Bytes) (o : List Bytes) (cur : Bytes), (s.foldl stW (o, cur)).1.length ≤ o.length + s.length
  | [], o, cur => by simp
  | c :: r, o, cur => by
    rw [List.foldl_cons]
    cases h : blankC c with
    | true =>
      rw [stW_blank h]
      split
      · have := foldW_len r o []; simp at this ⊢; omega
      · have := foldW_len r (o ++ [cur]) []; simp at this ⊢; omega
    | false => rw [stW_other h]; have := foldW_len r o (cur ++ [c]); simp at this ⊢; omega
theorem words_len (s : Bytes) : (wordsL s).length ≤ s.length + 1 := by
  unfold wordsL
  have h1 := fin_len ((hashL s).foldl stW ([], []))
  have h2 := foldW_len (hashL s) [] []
  have h3 := hash_le s
  simp at h2
  omega
end Go.Proofs.YtggdomeeienjbaaGreatDoor
