
/- Texts of directives, as plain functions of rows of words. No condition. -/
import Derived.Test.YtggdomeeienjbaaDoorDMath
import Derived.Test.YtggdomeeienjbaaDoorSmall02
namespace Go.Proofs.YtggdomeeienjbaaDoor
open Go.ChangeShapes Go.WideShapes Go.ChangeAt Go.RowKit Go.Sort
set_option linter.unusedSimpArgs false
set_option linter.unusedVariables false
/-- The numbers of the rows that have words. -/
def lnoF : List Bytes → Int → List Int
  | [], _ => []
  | r :: rs, k => if (wordsL r).length = 0 then lnoF rs (k + 1) else k :: lnoF rs (k + 1)
abbrev Pt := List Dr × Int × Int
def addF (a : List Dr) (p : Pt) : Pt := if p.2.2 = 0 then (a ++ p.1, p.2) else p
/-- The directives of rows, or the first fault. -/
def textF : List Bytes → Int → Pt
  | [], _ => ([], 0, 0)
  | r :: rs, k => if (wordsL r).length = 0 then textF rs (k + 1) else if (parseD (wordsL r)).2 = 0 then addF [(parseD (wordsL r)).1] (textF rs (k + 1)) else ([], k, (parseD (wordsL r)).2)
def printF : List Dr → Option Bytes
  | [] => some []
  | d :: ds => if rightD d = true then (printF ds).map (lineL (wordsD d) ++ ·) else none
theorem addF_nil (p : Pt) : addF [] p = p := by unfold addF; split <;> simp
theorem addF_code (a : List Dr) (p : Pt) : (addF a p).2 = p.2 := by unfold addF; split <;> rfl
theorem addF_addF (a b : List Dr) (p : Pt) : addF a (addF b p) = addF (a ++ b) p := by
  unfold addF
  by_cases h : p.2.2 = 0
  · simp [h]
  · simp [h]
theorem dropS {rows : List Bytes} {i : Nat} (h : i < rows.length) : rows.drop i = gS rows i :: rows.drop (i + 1) := by
  rw [List.drop_eq_getElem_cons h, gS_eq h]
theorem dropDr {l : List Dr} {i : Nat} (h : i < l.length) : l.drop i = gDr l i :: l.drop (i + 1) := by
  rw [List.drop_eq_getElem_cons h, gDr_eq h]
theorem lno_blank {rows : List Bytes} {i : Nat} {k : Int} (h : i < rows.length) (hw : (wordsL (gS rows i)).length = 0) : lnoF (rows.drop i) k = lnoF (rows.drop (i + 1)) (k + 1) := by
  rw [dropS h]; simp [lnoF, hw]
theorem lno_word {rows : List Bytes} {i : Nat} {k : Int} (h : i < rows.length) (hw : (wordsL (gS rows i)).length ≠ 0) : lnoF (rows.drop i) k = k :: lnoF (rows.drop (i + 1)) (k + 1) := by
  rw [dropS h]; simp [lnoF, hw]
theorem text_blank {rows : List Bytes} {i : Nat} {k : Int} (h : i < rows.length) (hw : (wordsL (gS rows i)).length = 0) : textF (rows.drop i) k = textF (rows.drop (i + 1)) (k + 1) := by
  rw [dropS h]; simp [textF, hw]
theorem text_ok {rows : List Bytes} {i : Nat} {k : Int} {z : Dr} (h : i < rows.length) (hw : (wordsL (gS rows i)).length ≠ 0) (hp : parseD (wordsL (gS rows i)) = (z, 0)) : textF (rows.drop i) k = addF [z] (textF (rows.drop (i + 1)) (k + 1)) := by
  rw [dropS h]
  simp only [textF]
  rw [if_neg hw, hp, if_pos rfl]
theorem text_bad {rows : List Bytes} {i : Nat} {k : Int} {z : Dr} {q : Int} (h : i < rows.length) (hw : (wordsL (gS rows i)).length ≠ 0) (hp : parseD (wordsL (gS rows i)) = (z, q)) (hq : q ≠ 0) : textF (rows.drop i) k = ([], k, q) := by
  rw [dropS h]
  simp only [textF]
  rw [if_neg hw, hp, if_neg hq]
theorem print_ok {l : List Dr} {i : Nat} (h : i < l.length) (hr : rightD (gDr l i) = true) : printF (l.drop i) = (printF (l.drop (i + 1))).map (lineL (wordsD (gDr l i)) ++ ·) := by
  rw [dropDr h]; simp [printF, hr]
theorem print_no {l : List Dr} {i : Nat} (h : i < l.length) (hr : rightD (gDr l i) = false) : printF (l.drop i) = none := by
  rw [dropDr h]; simp [printF, hr]
theorem finS_mem {B : Nat} {st : Pcs} (h1 : ∀ x ∈ st.1, x.length ≤ B) (h2 : st.2.length ≤ B) : ∀ x ∈ finS st, x.length ≤ B := by
  unfold finS
  split
  · exact h1
  · intro x hx
    rcases List.mem_append.1 hx with h | h
    · exact h1 x h
    · simp at h; subst h; exact h2
theorem foldL_mem : ∀ (s : Bytes) (o : List Bytes) (cur : Bytes) (B : Nat), (∀ x ∈ o, x.length ≤ B) → cur.length + s.length ≤ B → (∀ x ∈ (s.foldl stL (o, cur)).1, x.length ≤ B) ∧ (s.foldl stL (o, cur)).2.length ≤ B
  | [], o, cur, B, h1, h2 => ⟨h1, by simpa using h2⟩
  | c :: r, o, cur, B, h1, h2 => by
    rw [List.foldl_cons]
    simp at h2
    by_cases h : c = 10
    · subst h; rw [stL_ten]
      refine foldL_mem r (o ++ [cur]) [] B (fun x hx => ?_) (by simp; omega)
      rcases List.mem_append.1 hx with h | h
      · exact h1 x h
      · simp at h; subst h; omega
    · rw [stL_other h]
      exact foldL_mem r o (cur ++ [c]) B h1 (by simp; omega)
theorem lines_mem {s x : Bytes} (h : x ∈ linesL s) : x.length ≤ s.length := by
  unfold linesL at h
  obtain ⟨h1, h2⟩ := foldL_mem s [] [] s.length (by simp) (by simp)
  exact finS_mem h1 h2 x h
theorem foldW_mem : ∀ (s : Bytes) (o : List Bytes) (cur : Bytes) (B : Nat), (∀ x ∈ o, x.length ≤ B) → cur.length + s.length ≤ B → (∀ x ∈ (s.foldl stW (o, cur)).1, x.length ≤ B) ∧ (s.foldl stW (o, cur)).2.length ≤ B
  | [], o, cur, B, h1, h2 => ⟨h1, by simpa using h2⟩
  | c :: r, o, cur, B, h1, h2 => by
    rw [List.foldl_cons]
    simp at h2
    cases h : blankC c with
    | true =>
      rw [stW_blank h]
      split
      · exact foldW_mem r o [] B h1 (by simp; omega)
      · refine foldW_mem r (o ++ [cur]) [] B (fun x hx => ?_) (by simp; omega)
        rcases List.mem_append.1 hx with h | h
        · exact h1 x h
        · simp at h; subst h; omega
    | false =>
      rw [stW_other h]
      exact foldW_mem r o (cur ++ [c]) B h1 (by simp; omega)
theorem words_mem {s x : Bytes} (h : x ∈ wordsL s) : x.length ≤ s.length := by
  unfold wordsL at h
  have hh := hash_le s
  obtain ⟨h1, h2⟩ := foldW_mem (hashL s) [] [] s.length (by simp) (by simp; omega)
  exact finS_mem h1 h2 x h
theorem own_low {w w' : World} {base : Nat} {e : TypeId} {size n : Nat} {v : Value} {xs : List Value} {row : Option Nat} (h : w.ownsRow base e size v n xs) (hg : w.grownBy w' row) (hr : ∀ q, row = some q → q < base) : w'.ownsRow base e size v n xs :=
  h.kept hg (by
    cases hq : v.ownBlock with
    | none => exact .inl rfl
    | some q => exact .inr (fun e => by have := hr q e.symm; have := (h.lt q hq).1; omega))
end Go.Proofs.YtggdomeeienjbaaDoor
