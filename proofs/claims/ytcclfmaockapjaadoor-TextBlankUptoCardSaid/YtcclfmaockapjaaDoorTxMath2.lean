
/- Plain facts on texts of directives: what is read, printed, is no longer; lines without words put in between. No condition. -/
import Derived.Test.YtcclfmaockapjaaDoorTxMath
namespace Go.Proofs.YtcclfmaockapjaaDoor
open Go.ChangeShapes Go.WideShapes Go.ChangeAt Go.RowKit Go.Sort
set_option linter.unusedSimpArgs false
set_option linter.unusedVariables false
def sumS (l : List Bytes) : Nat := (l.map fun x => x.length + 1).sum
theorem sumS_append (a b : List Bytes) : sumS (a ++ b) = sumS a + sumS b := by simp [sumS]
theorem foldL_sum : ∀ (s : Bytes) (o : List Bytes) (cur : Bytes), sumS (s.foldl stL (o, cur)).1 + (s.foldl stL (o, cur)).2.length = sumS o + cur.length + s.length
  | [], o, cur => by simp
  | c :: r, o, cur => by
    rw [List.foldl_cons]
    by_cases h : c = 10
    · subst h; rw [stL_ten, foldL_sum r, sumS_append]; simp [sumS]; omega
    · rw [stL_other h, foldL_sum r]; simp; omega
theorem fin_sum (st : Pcs) : sumS (finS st) ≤ sumS st.1 + st.2.length + 1 := by
  unfold finS
  split
  · omega
  · rw [sumS_append]; simp [sumS]; omega
theorem lines_sum (s : Bytes) : sumS (linesL s) ≤ s.length + 1 := by
  unfold linesL
  have h1 := fin_sum (s.foldl stL ([], []))
  have h2 := foldL_sum s [] []
  simp [sumS] at h2
  simp only [sumS] at h1 h2 ⊢
  omega
theorem foldW_sum : ∀ (s : Bytes) (o : List Bytes) (cur : Bytes), sumS (s.foldl stW (o, cur)).1 + (s.foldl stW (o, cur)).2.length ≤ sumS o + cur.length + s.length
  | [], o, cur => by simp
  | c :: r, o, cur => by
    rw [List.foldl_cons]
    cases h : blankC c with
    | true =>
      rw [stW_blank h]
      split
      · have := foldW_sum r o []; simp at this ⊢; omega
      · have := foldW_sum r (o ++ [cur]) []; rw [sumS_append] at this; simp [sumS] at this ⊢; omega
    | false => rw [stW_other h]; have := foldW_sum r o (cur ++ [c]); simp at this ⊢; omega
theorem words_sum (s : Bytes) : sumS (wordsL s) ≤ s.length + 1 := by
  unfold wordsL
  have h1 := fin_sum ((hashL s).foldl stW ([], []))
  have h2 := foldW_sum (hashL s) [] []
  have h3 := hash_le s
  simp [sumS] at h2
  simp only [sumS] at h1 h2 ⊢
  omega
theorem jn_sum : ∀ (l : List Bytes), (jn l).length ≤ sumS l
  | [] => by rw [jn_nil]; simp
  | [a] => by rw [jn_one]; simp [sumS]
  | a :: b :: r => by
    have ih := jn_sum (b :: r)
    rw [jn_cons]
    simp [sumS] at ih ⊢
    omega
theorem lineL_sum {l : List Bytes} (h : l ≠ []) : (lineL l).length ≤ sumS l := by
  rw [lineL_eq, List.length_append]
  match l, h with
  | [a], _ => rw [jn_one]; simp [sumS]
  | a :: b :: r, _ =>
    have ih := lineL_sum (l := b :: r) (by simp)
    rw [lineL_eq, List.length_append] at ih
    rw [jn_cons]
    simp [sumS] at ih ⊢
    omega
/-- What is read, printed, is no longer than its rows. -/
theorem text_shorter : ∀ (rows : List Bytes) (k : Int), (allL ((textF rows k).1.map wordsD)).length ≤ sumS rows
  | [], k => by simp [textF, allL]
  | r :: rs, k => by
    have ih := text_shorter rs (k + 1)
    have e : sumS (r :: rs) = r.length + 1 + sumS rs := by simp [sumS]
    rw [e]
    simp only [textF]
    split
    · omega
    · rename_i hw
      split
      · rename_i hq
        have hp := parse_words (l := wordsL r) (d := (parseD (wordsL r)).1) (Prod.ext rfl hq)
        have h1 := lineL_sum (l := wordsL r) (by intro e; rw [e] at hw; exact hw rfl)
        have h2 := words_sum r
        unfold addF
        split
        · simp only [List.map_append, List.map_cons, List.map_nil, allL, List.flatMap_append, List.flatMap_cons, List.flatMap_nil, List.append_nil, List.length_append]
          rw [hp.2]
          unfold allL at ih
          omega
        · unfold allL at ih ⊢
          omega
      · simp [allL]
/-- Rows without words, put in between. -/
theorem text_blank2 (a b : List Bytes) (x y : Bytes) (hx : (wordsL x).length = 0) (hy : (wordsL y).length = 0) (n : Nat) (hn : a.length = n) :
    textF (a ++ [x, y] ++ b) 1 = ((textF (a ++ b) 1).1, (if (n : Int) < (textF (a ++ b) 1).2.1 then (textF (a ++ b) 1).2.1 + 2 else (textF (a ++ b) 1).2.1), (textF (a ++ b) 1).2.2) := by
  have e1 : textF ([x, y] ++ b) (1 + (a.length : Int)) = textF b (1 + (a.length : Int) + 2) := by
    simp only [List.cons_append, List.nil_append, textF]
    rw [if_pos hx, if_pos hy, show 1 + (a.length : Int) + 1 + 1 = 1 + (a.length : Int) + 2 by omega]
  rw [List.append_assoc, text_join a ([x, y] ++ b) 1, text_join a b 1, e1, text_shift b (1 + (a.length : Int)) 2]
  by_cases hc : (textF a 1).2.2 = 0
  · rw [if_pos hc, if_pos hc]
    by_cases hd : (textF b (1 + (a.length : Int))).2.2 = 0
    · have h0 := text_code0 b _ hd
      unfold addF
      rw [if_pos hd, if_pos (by exact hd), if_pos hd]
      try dsimp only
      rw [h0, if_neg (by omega)]
    · have hf := text_fault b _ hd
      unfold addF
      rw [if_neg hd, if_neg (by exact hd), if_neg hd]
      try dsimp only
      rw [if_pos (by omega)]
  · rw [if_neg hc, if_neg hc]
    have hf := text_fault a 1 hc
    rw [if_neg (by omega)]
theorem lno_blank2 (a b : List Bytes) (x y : Bytes) (hx : (wordsL x).length = 0) (hy : (wordsL y).length = 0) : (lnoF (a ++ [x, y] ++ b) 1).length = (lnoF (a ++ b) 1).length := by
  have e1 : lnoF ([x, y] ++ b) (1 + (a.length : Int)) = lnoF b (1 + (a.length : Int) + 2) := by
    simp only [List.cons_append, List.nil_append, lnoF]
    rw [if_pos hx, if_pos hy, show 1 + (a.length : Int) + 1 + 1 = 1 + (a.length : Int) + 2 by omega]
  rw [List.append_assoc, lno_join a ([x, y] ++ b), lno_join a b, e1, List.length_append, List.length_append, lno_len b _ (1 + (a.length : Int))]
/-- Rows, each with a line feed behind. -/
def lfL (rows : List Bytes) : Bytes := rows.flatMap (· ++ [10])
theorem lfL_append (a b : List Bytes) : lfL (a ++ b) = lfL a ++ lfL b := by simp [lfL]
theorem lfL_len (rows : List Bytes) : (lfL rows).length = sumS rows := by
  induction rows with
  | nil => rfl
  | cons r rs ih => simp [lfL, sumS] at ih ⊢; omega
theorem foldL_lf : ∀ (rows : List Bytes) (o : List Bytes), (∀ r ∈ rows, (10 : UInt8) ∉ r) → (lfL rows).foldl stL (o, []) = (o ++ rows, [])
  | [], o, _ => by simp [lfL]
  | r :: rs, o, h => by
    have e : lfL (r :: rs) = r ++ ([10] ++ lfL rs) := by simp [lfL]
    rw [e, List.foldl_append, foldL_none _ _ _ (h r (by simp)), List.foldl_append, List.foldl_cons, List.foldl_nil, stL_ten, foldL_lf rs _ (fun q hq => h q (by simp [hq]))]
    simp
theorem lines_lf {rows : List Bytes} (h : ∀ r ∈ rows, (10 : UInt8) ∉ r) : linesL (lfL rows) = rows := by
  unfold linesL
  rw [foldL_lf rows [] h]
  simp [finS]
theorem foldL_no10 : ∀ (s : Bytes) (o : List Bytes) (cur : Bytes), (∀ x ∈ o, (10 : UInt8) ∉ x) → (10 : UInt8) ∉ cur → (∀ x ∈ (s.foldl stL (o, cur)).1, (10 : UInt8) ∉ x) ∧ (10 : UInt8) ∉ (s.foldl stL (o, cur)).2
  | [], o, cur, h1, h2 => ⟨h1, h2⟩
  | c :: r, o, cur, h1, h2 => by
    rw [List.foldl_cons]
    by_cases h : c = 10
    · subst h; rw [stL_ten]
      refine foldL_no10 r (o ++ [cur]) [] (fun x hx => ?_) (by simp)
      rcases List.mem_append.1 hx with h | h
      · exact h1 x h
      · simp at h; subst h; exact h2
    · rw [stL_other h]
      exact foldL_no10 r o (cur ++ [c]) h1 (by simp; exact ⟨h2, fun e => h e.symm⟩)
theorem lines_no10 (s : Bytes) : ∀ x ∈ linesL s, (10 : UInt8) ∉ x := by
  obtain ⟨h1, h2⟩ := foldL_no10 s [] [] (by simp) (by simp)
  intro x hx
  unfold linesL finS at hx
  split at hx
  · exact h1 x hx
  · rcases List.mem_append.1 hx with h | h
    · exact h1 x h
    · simp at h; subst h; exact h2
theorem words_rem (m : Bytes) : (wordsL ([32, 35, 32] ++ m)).length = 0 := by
  have := words_remark [32] ([32] ++ m)
  rw [show ([32] : Bytes) ++ [35] ++ ([32] ++ m) = [32, 35, 32] ++ m by simp] at this
  rw [this]
  decide
end Go.Proofs.YtcclfmaockapjaaDoor
