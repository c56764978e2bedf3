
/- A small case of lines and words. -/
import Derived.Test.YtggdomeeienjbaaDoorWLine
import Derived.Test.YtggdomeeienjbaaDoorWWords
namespace Go.Proofs.YtggdomeeienjbaaDoor
open Go.ChangeShapes Go.WideShapes Go.ChangeAt Go.RowKit Go.Sort
set_option linter.unusedSimpArgs false
set_option linter.unusedVariables false
theorem is_of_own {w w' : World} {base : Nat} {v : Value} {d : List Bytes} (h : w.ownsRow base 9 1 v d.length (vs d)) : ∃ A c, v = .slice A d.length c := by
  obtain ⟨A, c, e⟩ := slice_of_own h
  exact ⟨A, c, e⟩
theorem line_is (A : Option Addr) (n c : Nat) (d : List Bytes) (r : ByteArray) (hr : bs (lineL d) = r) (w : World) (hd : d.length = n) (hn : n ≤ 1000) (hb : ∀ x ∈ d, x.length ≤ 1000) (h : Sl w w.heap.size 1 A n c (vs d)) :
    Calls Tryd.prog 25 #[.slice A n c] w fun e w' => e = .returned (.string r) ∧ Below w.heap.size w w' := by
  subst hr; exact line_any A n c d w hd hn hb h
theorem rline_is (A : Option Addr) (n c : Nat) (d : List Bytes) (r : ByteArray) (hr : bs (lineL d) = r) (w : World) (hd : d.length = n) (hn : n ≤ 1000) (hb : ∀ x ∈ d, x.length ≤ 1000) (h : Sl w w.heap.size 1 A n c (vs d)) :
    Calls Tryd.prog 39 #[.slice A n c] w fun e w' => e = .returned (.string r) ∧ Below w.heap.size w w' := by
  subst hr; exact rline_any A n c d w hd hn hb h
theorem fin_len (st : Pcs) : (finS st).length ≤ st.1.length + 1 := by unfold finS; split <;> simp
theorem foldL_len : ∀ (s : Bytes) (o : List Bytes) (cur : Bytes), (s.foldl stL (o, cur)).1.length ≤ o.length + s.length
  | [], o, cur => by simp
  | c :: r, o, cur => by
    rw [List.foldl_cons]
    by_cases h : c = 10
    · subst h; rw [stL_ten]; have := foldL_len r (o ++ [cur]) []; simp at this ⊢; omega
    · rw [stL_other h]; have := foldL_len r o (cur ++ [c]); simp at this ⊢; omega
theorem lines_len (s : Bytes) : (linesL s).length ≤ s.length + 1 := by
  unfold linesL
  have h1 := fin_len (s.foldl stL ([], []))
  have h2 := foldL_len s [] []
  simp at h2
  omega
theorem foldW_len : ∀ (s : Bytes) (o : List Bytes) (cur : Bytes), (s.foldl stW (o, cur)).1.length ≤ o.length + s.length
  | [], o, cur => by simp
  | c :: r, o, cur => by
    rw [List.foldl_cons]
    cases h : blankC c with
    | true =>
      rw [stW_blank h]
      split
      · have := foldW_len r o []; simp at this ⊢; omega
      · have := foldW_len r (o ++ [cur]) []; simp at this ⊢; omega
    | false => rw [stW_other h]; have := foldW_len r o (cur ++ [c]); simp at this ⊢; omega
theorem words_len (s : Bytes) : (wordsL s).length ≤ s.length + 1 := by
  unfold wordsL
  have h1 := fin_len ((hashL s).foldl stW ([], []))
  have h2 := foldW_len (hashL s) [] []
  have h3 := hash_le s
  simp at h2
  omega
end Go.Proofs.YtggdomeeienjbaaDoor
