
/- Plain facts on texts of directives: what is printed is read as it was; texts of lines joined; lines without words. No condition. -/
import Derived.Test.YtggdomeeienjbaaDoorTx3
import Derived.Test.YtggdomeeienjbaaDoorWRows
import Derived.Test.YtggdomeeienjbaaDoorWWMath2
namespace Go.Proofs.YtggdomeeienjbaaDoor
open Go.ChangeShapes Go.WideShapes Go.ChangeAt Go.RowKit Go.Sort
set_option linter.unusedSimpArgs false
set_option linter.unusedVariables false
theorem digs_plain : ∀ (k u : Nat), u ≤ k → ∀ c ∈ Lib.decDigits u, plainC c = false
  | k, u, hk, c, hc => by
    by_cases h : u < 10
    · rw [Lib.decDigits_one h] at hc
      simp at hc
      subst hc
      match u, h with
      | 0, _ => decide
      | 1, _ => decide
      | 2, _ => decide
      | 3, _ => decide
      | 4, _ => decide
      | 5, _ => decide
      | 6, _ => decide
      | 7, _ => decide
      | 8, _ => decide
      | 9, _ => decide
    · rw [Lib.decDigits, dif_neg h] at hc
      rcases List.mem_append.1 hc with hc | hc
      · match k with
        | 0 => omega
        | k + 1 => exact digs_plain k (u / 10) (by omega) c hc
      · simp at hc
        subst hc
        have h9 : u % 10 < 10 := Nat.mod_lt _ (by omega)
        match u % 10, h9 with
        | 0, _ => decide
        | 1, _ => decide
        | 2, _ => decide
        | 3, _ => decide
        | 4, _ => decide
        | 5, _ => decide
        | 6, _ => decide
        | 7, _ => decide
        | 8, _ => decide
        | 9, _ => decide
theorem itoa_plain {m : Int} (h : 0 ≤ m) : ∀ c ∈ Lib.itoa m, plainC c = false := by
  intro c hc
  unfold Lib.itoa at hc
  rw [if_neg (by omega)] at hc
  exact digs_plain _ _ (Nat.le_refl _) c hc
theorem digs_ne (u : Nat) : Lib.decDigits u ≠ [] := by
  by_cases h : u < 10
  · rw [Lib.decDigits_one h]; simp
  · rw [Lib.decDigits, dif_neg h]; simp
theorem words_good {d : Dr} (h : rightD d = true) : GoodR (wordsD d) := by
  refine ⟨by rw [words_len_eq]; have := nums_le d; omega, fun x hx => ⟨?_, Nat.le_trans (words_small h x hx) (by omega)⟩⟩
  have hn := right_nums h
  have h' := h
  unfold rightD at h'
  simp only [Bool.and_eq_true] at h'
  obtain ⟨hk, _, _⟩ := h'
  obtain ⟨_, _, _, _, _, _, _, hop, hkd⟩ := form_nums d hk
  unfold wordsD at hx
  simp only [List.cons_append, List.nil_append, List.mem_cons] at hx
  rcases hx with rfl | rfl | hx
  · rcases hop with h | h | h <;> rw [h] <;> decide
  · rcases hkd with h | h <;> rw [h] <;> decide
  · obtain ⟨m, hm, rfl⟩ := List.mem_map.1 hx
    obtain ⟨h0, h1⟩ := hn m hm
    unfold plainB
    simp only [Bool.and_eq_true, List.all_eq_true]
    refine ⟨fun c hc => by rw [itoa_plain h0 c hc]; rfl, ?_⟩
    unfold Lib.itoa
    rw [if_neg (by omega)]
    have := digs_ne m.toNat
    cases h : Lib.decDigits m.toNat with
    | nil => exact absurd h this
    | cons a r => rfl
theorem print_all : ∀ {l : List Dr}, (∀ d ∈ l, rightD d = true) → printF l = some (allL (l.map wordsD))
  | [], _ => rfl
  | d :: l, h => by
    simp only [printF]
    rw [if_pos (h d (by simp)), print_all (fun x hx => h x (by simp [hx]))]
    rfl
theorem print_some : ∀ {l : List Dr}, (printF l).isSome = l.all rightD
  | [] => rfl
  | d :: l => by
    simp only [printF, List.all_cons]
    cases hr : rightD d
    · rfl
    · simp [print_some (l := l)]
theorem text_words : ∀ {l : List Dr} {k : Int}, (∀ d ∈ l, rightD d = true) → textF ((l.map wordsD).map jn) k = (l, 0, 0)
  | [], _, _ => rfl
  | d :: l, k, h => by
    have hd := h d (by simp)
    have ih := text_words (l := l) (k := k + 1) (fun x hx => h x (by simp [hx]))
    have e : wordsL (jn (wordsD d)) = wordsD d := words_row (words_good hd)
    simp only [List.map_cons, textF]
    rw [e, if_neg (by rw [words_len_eq]; omega), words_parse hd, if_pos rfl, ih]
    rfl
/-- What was printed is read as it was. -/
theorem text_print {l : List Dr} (h : ∀ d ∈ l, rightD d = true) (k : Int) : textF (linesL (allL (l.map wordsD))) k = (l, 0, 0) := by
  rw [lines_rows (fun r hr => by obtain ⟨d, hd, rfl⟩ := List.mem_map.1 hr; exact words_good (h d hd))]
  exact text_words h
theorem print_len {l : List Dr} (h : ∀ d ∈ l, rightD d = true) : (allL (l.map wordsD)).length ≤ l.length * 200 := by
  induction l with
  | nil => simp [allL]
  | cons d l ih =>
    have h1 := ih (fun x hx => h x (by simp [hx]))
    have h2 : (lineL (wordsD d)).length ≤ 200 := by
      have hd := h d (by simp)
      have q1 := jn_len (B := 21) (wordsD d) (words_small hd)
      rw [words_len_eq] at q1
      have q2 := nums_le d
      rw [lineL_eq, List.length_append]
      have q3 : (2 + (numsD d).length) * (21 + 1) ≤ 8 * 22 := Nat.mul_le_mul (by omega) (by omega)
      simp
      omega
    have e : allL ((d :: l).map wordsD) = lineL (wordsD d) ++ allL (l.map wordsD) := by simp [allL]
    rw [e, List.length_append, List.length_cons, Nat.add_mul, Nat.one_mul]
    omega
/-- What is read is right. -/
theorem text_right : ∀ (rows : List Bytes) (k : Int), ∀ d ∈ (textF rows k).1, rightD d = true
  | [], k, d, h => by simp [textF] at h
  | r :: rs, k, d, h => by
    simp only [textF] at h
    split at h
    · exact text_right rs (k + 1) d h
    · split at h
      · rename_i hq
        unfold addF at h
        split at h
        · rcases List.mem_append.1 h with h | h
          · simp at h
            subst h
            exact (parse_words (l := wordsL r) (d := (parseD (wordsL r)).1) (Prod.ext rfl hq)).1
          · exact text_right rs (k + 1) d h
        · exact text_right rs (k + 1) d h
      · simp at h
theorem text_fault : ∀ (rows : List Bytes) (k : Int), (textF rows k).2.2 ≠ 0 → (textF rows k).1 = [] ∧ k ≤ (textF rows k).2.1 ∧ (textF rows k).2.1 < k + rows.length
  | [], k, h => absurd rfl h
  | r :: rs, k, h => by
    have ih := text_fault rs (k + 1)
    simp only [textF] at h ⊢
    split at h
    · rename_i h0
      rw [if_pos h0]
      obtain ⟨h1, h2, h3⟩ := ih h
      exact ⟨h1, by omega, by simp; omega⟩
    · rename_i h0
      rw [if_neg h0]
      split at h
      · rename_i h1
        rw [if_pos h1]
        rw [addF_code] at h
        obtain ⟨h2, h3, h4⟩ := ih h
        unfold addF
        rw [if_neg h]
        exact ⟨h2, by omega, by simp; omega⟩
      · rename_i h1
        rw [if_neg h1]
        exact ⟨rfl, by simp, by simp; omega⟩
theorem text_ok_len : ∀ (rows : List Bytes) (k : Int), (textF rows k).2.2 = 0 → (textF rows k).1.length = (lnoF rows k).length
  | [], k, _ => rfl
  | r :: rs, k, h => by
    have ih := text_ok_len rs (k + 1)
    simp only [textF, lnoF] at h ⊢
    split at h
    · rename_i h0
      rw [if_pos h0, if_pos h0]
      exact ih h
    · rename_i h0
      rw [if_neg h0, if_neg h0]
      split at h
      · rename_i h1
        rw [if_pos h1]
        rw [addF_code] at h
        unfold addF
        rw [if_pos h]
        simp
        exact ih h
      · rename_i h1
        exact absurd h h1
/-- The fault is of a line with words, the first one that is wrong. -/
theorem text_first : ∀ (rows : List Bytes) (k : Int), (textF rows k).2.2 ≠ 0 → (textF rows k).2.1 ∈ lnoF rows k ∧
    ∀ x ∈ lnoF rows k, k ≤ x ∧ x < k + rows.length ∧ (x < (textF rows k).2.1 → (parseD (wordsL (gS rows (x - k).toNat))).2 = 0) ∧ (x = (textF rows k).2.1 → (parseD (wordsL (gS rows (x - k).toNat))).2 = (textF rows k).2.2)
  | [], k, h => absurd rfl h
  | r :: rs, k, h => by
    have ih := text_first rs (k + 1)
    have up : ∀ x : Int, k + 1 ≤ x → gS (r :: rs) (x - k).toNat = gS rs (x - (k + 1)).toNat := fun x hx => by
      rw [show (x - k).toNat = (x - (k + 1)).toNat + 1 by omega]; rfl
    have g0 : gS (r :: rs) (k - k).toNat = r := by rw [show (k - k).toNat = 0 by omega]; rfl
    have lob : ∀ (rows : List Bytes) (k : Int), ∀ x ∈ lnoF rows k, k ≤ x ∧ x < k + rows.length := by
      intro rows
      induction rows with
      | nil => intro k x hx; simp [lnoF] at hx
      | cons q qs iq =>
        intro k x hx
        simp only [lnoF] at hx
        split at hx
        · have := iq (k + 1) x hx; simp; omega
        · rcases List.mem_cons.1 hx with h | h
          · subst h; simp; omega
          · have := iq (k + 1) x h; simp; omega
    simp only [textF, lnoF] at h ⊢
    split at h
    · rename_i h0
      simp only [if_pos h0]
      obtain ⟨h1, h2⟩ := ih h
      refine ⟨h1, fun x hx => ?_⟩
      obtain ⟨q1, q2, q3, q4⟩ := h2 x hx
      rw [up x q1]
      exact ⟨by omega, by simp; omega, q3, q4⟩
    · rename_i h0
      simp only [if_neg h0]
      split at h
      · rename_i h1
        simp only [if_pos h1]
        rw [addF_code] at h
        obtain ⟨h2, h3⟩ := ih h
        simp only [addF_code]
        refine ⟨List.mem_cons_of_mem _ h2, fun x hx => ?_⟩
        rcases List.mem_cons.1 hx with e | hx
        · rw [e, g0]
          have hb := (lob rs (k + 1) _ h2).1
          exact ⟨by omega, by simp; omega, fun _ => h1, fun e => by omega⟩
        · obtain ⟨q1, q2, q3, q4⟩ := h3 x hx
          rw [up x q1]
          exact ⟨by omega, by simp; omega, q3, q4⟩
      · rename_i h1
        simp only [if_neg h1]
        refine ⟨by simp, fun x hx => ?_⟩
        rcases List.mem_cons.1 hx with e | hx
        · rw [e, g0]
          exact ⟨by omega, by simp; omega, fun e => by omega, fun _ => rfl⟩
        · have hb := lob rs (k + 1) x hx
          exact ⟨by omega, by simp; omega, fun e => by omega, fun e => by omega⟩
/-- Rows joined. -/
theorem text_join : ∀ (a b : List Bytes) (k : Int), textF (a ++ b) k = if (textF a k).2.2 = 0 then addF (textF a k).1 (textF b (k + a.length)) else textF a k
  | [], b, k => by simp [textF, addF_nil]
  | r :: rs, b, k => by
    have ih := text_join rs b (k + 1)
    have e : k + ((r :: rs).length : Int) = k + 1 + (rs.length : Int) := by simp; omega
    rw [e]
    simp only [List.cons_append, textF]
    split
    · exact ih
    · split
      · rw [ih, addF_code]
        split
        · rename_i h; rw [addF_addF]; unfold addF; rw [if_pos h]
        · rfl
      · rename_i h
        first | rfl | rw [if_neg h]
theorem text_shift : ∀ (b : List Bytes) (k d : Int), textF b (k + d) = ((textF b k).1, (if (textF b k).2.2 = 0 then 0 else (textF b k).2.1 + d), (textF b k).2.2)
  | [], k, d => by simp [textF]
  | r :: rs, k, d => by
    have ih := text_shift rs (k + 1) d
    rw [show k + 1 + d = k + d + 1 by omega] at ih
    simp only [textF]
    split
    · exact ih
    · split
      · rw [ih]
        by_cases h : (textF rs (k + 1)).2.2 = 0
        · simp [addF, h]
        · simp [addF, h]
      · rename_i h
        simp [h]
theorem text_code0 : ∀ (b : List Bytes) (k : Int), (textF b k).2.2 = 0 → (textF b k).2.1 = 0
  | [], k, _ => rfl
  | r :: rs, k, h => by
    have ih := text_code0 rs (k + 1)
    simp only [textF] at h ⊢
    split at h
    · rename_i h0; rw [if_pos h0]; exact ih h
    · rename_i h0
      rw [if_neg h0]
      split at h
      · rename_i h1; rw [if_pos h1]; rw [addF_code] at h ⊢; exact ih h
      · rename_i h1; exact absurd h h1
theorem lno_join : ∀ (a b : List Bytes) (k : Int), lnoF (a ++ b) k = lnoF a k ++ lnoF b (k + a.length)
  | [], b, k => by simp [lnoF]
  | r :: rs, b, k => by
    have ih := lno_join rs b (k + 1)
    have e : k + ((r :: rs).length : Int) = k + 1 + (rs.length : Int) := by simp; omega
    rw [e]
    simp only [List.cons_append, lnoF]
    split
    · exact ih
    · rw [ih]; rfl
theorem lno_len : ∀ (b : List Bytes) (k j : Int), (lnoF b k).length = (lnoF b j).length
  | [], k, j => rfl
  | r :: rs, k, j => by
    simp only [lnoF]
    split
    · exact lno_len rs _ _
    · simp [lno_len rs (k + 1) (j + 1)]
theorem lno_short : ∀ (b : List Bytes) (k : Int), (lnoF b k).length ≤ b.length
  | [], k => by simp [lnoF]
  | r :: rs, k => by
    have := lno_short rs (k + 1)
    simp only [lnoF]
    split
    · simp; omega
    · simp; omega
theorem foldL_ahead : ∀ (s : Bytes) (o p : List Bytes) (cur : Bytes), s.foldl stL (o ++ p, cur) = (o ++ (s.foldl stL (p, cur)).1, (s.foldl stL (p, cur)).2)
  | [], o, p, cur => rfl
  | c :: r, o, p, cur => by
    rw [List.foldl_cons, List.foldl_cons]
    by_cases h : c = 10
    · subst h; rw [stL_ten, stL_ten, List.append_assoc, foldL_ahead r o (p ++ [cur]) []]
    · rw [stL_other h, stL_other h, foldL_ahead r o p (cur ++ [c])]
/-- Lines of two texts, the first one ended. -/
theorem lines_join (s t : Bytes) : linesL (s ++ [10] ++ t) = linesL (s ++ [10]) ++ linesL t := by
  unfold linesL
  rw [List.foldl_append, List.foldl_append, List.foldl_cons, List.foldl_nil]
  obtain ⟨o, cur, h⟩ : ∃ o cur, s.foldl stL ([], []) = (o, cur) := ⟨_, _, rfl⟩
  rw [h, stL_ten]
  have := foldL_ahead t (o ++ [cur]) [] []
  rw [List.append_nil] at this
  rw [this]
  unfold finS
  simp
  split <;> simp
end Go.Proofs.YtggdomeeienjbaaDoor
