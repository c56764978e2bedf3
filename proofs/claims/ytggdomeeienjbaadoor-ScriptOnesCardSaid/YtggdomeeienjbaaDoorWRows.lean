
/- Rows of texts: an argument [][]string opened; words, line by line, are cut as they were. No condition. -/
import Derived.Test.YtggdomeeienjbaaDoorWOpen
import Derived.Test.YtggdomeeienjbaaDoorWLine
import Derived.Test.YtggdomeeienjbaaDoorWWMath2
import Derived.Deep.Slices
namespace Go.Proofs.YtggdomeeienjbaaDoor
open Go.ChangeShapes Go.WideShapes Go.ChangeAt Go.RowKit Go.Sort
set_option linter.unusedSimpArgs false
set_option linter.unusedVariables false
abbrev Rowz := List (List Bytes)
def gR (R : Rowz) (k : Nat) : List Bytes := R.getD k []
theorem gR_eq {R : Rowz} {k : Nat} (h : k < R.length) : gR R k = R[k] := by simp [gR, List.getD_eq_getElem?_getD, List.getElem?_eq_getElem h]
theorem take_nextR {R : Rowz} {k : Nat} (h : k < R.length) : R.take (k + 1) = R.take k ++ [gR R k] := by rw [List.take_succ_eq_append_getElem h, gR_eq h]
/-- A slice whose cells are slices of texts. -/
structure Rws (w : World) (B : Nat) (A : Option Addr) (n : Nat) (R : Rowz) : Prop where
  len : R.length = n
  at_ : ∀ j, j < n → ∃ ad Aj nj cj, A = some ad ∧ ad.block < B ∧ w.cell? (ad.add j) = some (.slice Aj nj cj) ∧ Sl w B 1 Aj nj cj (vs (gR R j)) ∧ (gR R j).length = nj ∧ ∀ x ∈ gR R j, x.length ≤ maxLen
theorem blk_add (a : Addr) (n : Nat) : (a.add n).block = a.block := by unfold Addr.add; split <;> rfl
theorem Rws.below {w w' : World} {B n : Nat} {A : Option Addr} {R : Rowz} (h : Rws w B A n R) (hb : Below B w w') : Rws w' B A n R :=
  ⟨h.len, fun j hj => by
    obtain ⟨ad, Aj, nj, cj, e, h1, h2, h3, h4⟩ := h.at_ j hj
    exact ⟨ad, Aj, nj, cj, e, h1, by rw [hb.cell (by rw [blk_add]; exact h1)]; exact h2, h3.below hb, h4⟩⟩
section
variable {H : Type} {enc : TypeId × Value → H}
theorem texts_of_trod {P : Program} {w : World} {base : Nat} {spare : Nat → Bool} {held : Bool} {t e : TypeId} {v : Value} {x : DataW H × List MemPlace} {fuel : Nat} (ht : P.underlying t = some (.slice e)) (he : P.underlying e = some .string) (hK : P.cellsOf e = 1)
    (h : DataW.trod enc P w base spare held fuel t [v] = some x) :
    ∃ (A : Option Addr) (n c : Nat) (ds : List Bytes), v = .slice A n c ∧ Sl w w.heap.size 1 A n c (vs ds) ∧ ds.length = n ∧ ∀ x ∈ ds, x.length ≤ maxLen := by
  rcases open_strings ht he hK h with ⟨h0, _⟩ | ⟨a, len, cap, ss, hcs, _, hl, hm, hlen, _, hcell, hsz⟩
  · injection h0 with h0 _
    exact ⟨none, 0, 0, [], h0, Sl.nil0 _ _ _, rfl, by simp⟩
  · injection hcs with hcs _
    have hnl : len ≤ ss.length := by rw [hlen]; split <;> omega
    have hdl : ((ss.take len).map (·.data.toList)).length = len := by simp; omega
    refine ⟨some a, len, cap, (ss.take len).map (·.data.toList), hcs, ⟨⟨by rw [vs_length, hdl, Nat.mul_one], fun hn => ?_⟩, hl, hm, fun h => by cases h⟩, hdl, fun x hx => by
      obtain ⟨y, hy, rfl⟩ := List.mem_map.1 hx
      have := hsz y (List.mem_of_mem_take hy)
      rw [size_list] at this
      exact this⟩
    have hb : a.block < w.heap.size := by
      have := block_lt_of_cell (hcell 0 (by omega))
      simpa [Addr.add] using this
    refine ⟨a, rfl, hb, fun j u hu => ?_⟩
    have hj : j < len := by
      have := (List.getElem?_eq_some_iff.1 hu).1
      rw [vs_length, hdl] at this
      exact this
    rw [vs_at (by rw [hdl]; exact hj)] at hu
    injection hu with hu
    subst hu
    rw [hcell j (by omega)]
    have hjs : j < ss.length := by omega
    have e1 : ss.getD j ByteArray.empty = ss[j] := by simp [List.getD_eq_getElem?_getD, List.getElem?_eq_getElem hjs]
    have e2 : gS ((ss.take len).map (·.data.toList)) j = (ss[j]).data.toList := by
      rw [gS_eq (by rw [hdl]; exact hj)]
      simp
    rw [e1, e2, bs_of]
theorem open_rowz {P : Program} {w : World} {base b0 : Nat} {r : Reach} {spare : Nat → Bool} {held : Bool} {t e f : TypeId} {v : Value} {d : DataW H} {p : List MemPlace} (ht : P.underlying t = some (.slice e)) (he : P.underlying e = some (.slice f)) (hf : P.underlying f = some .string) (hK : P.cellsOf e = 1) (hK2 : P.cellsOf f = 1)
    (hv : Value.okWide P w r b0 t v) (h : DataW.Trod enc P w base spare held t v d p) :
    ∃ (A : Option Addr) (n c : Nat) (R : Rowz), v = .slice A n c ∧ Rws w w.heap.size A n R := by
  obtain ⟨A, n, c, rfl⟩ := okWide_slice ht hv
  obtain ⟨fuel, hx⟩ := h
  rcases Go.Deep.open_slice1 ht hK hx with ⟨h0, _⟩ | ⟨a, len, cap, m, q, V, D, Pl, hcs, _, hl, hm, hmm, _, hi⟩
  · have h0' : Value.slice A n c = .slice none 0 0 := by simpa [Value.cells] using h0
    injection h0' with h1 h2 h3
    subst h1 h2 h3
    exact ⟨none, 0, 0, [], rfl, rfl, fun j hj => by omega⟩
  · have h0' : Value.slice A n c = .slice (some a) len cap := by simpa [Value.cells] using hcs
    injection h0' with h1 h2 h3
    subst h1 h2 h3
    have hnm : n ≤ m := by rw [hmm]; split <;> omega
    have key : ∀ i, i ≤ n → ∃ R : Rowz, R.length = i ∧ ∀ j, j < i → ∃ Aj nj cj, w.cell? (a.add j) = some (.slice Aj nj cj) ∧ Sl w w.heap.size 1 Aj nj cj (vs (gR R j)) ∧ (gR R j).length = nj ∧ ∀ x ∈ gR R j, x.length ≤ maxLen := by
      intro i
      induction i with
      | zero => exact fun _ => ⟨[], rfl, fun j hj => by omega⟩
      | succ i ih =>
        intro hin
        obtain ⟨R, r1, r2⟩ := ih (by omega)
        obtain ⟨hc, htr⟩ := hi i (by omega)
        obtain ⟨Ai, ni, ci, ds, e1, e2, e3, e4⟩ := texts_of_trod he hf hK2 htr
        refine ⟨R ++ [ds], by simp [r1], fun j hj => ?_⟩
        by_cases hji : j = i
        · subst hji
          have eg : gR (R ++ [ds]) j = ds := by simp [gR, List.getD_eq_getElem?_getD, ← r1]
          exact ⟨Ai, ni, ci, by rw [hc, e1], by rw [eg]; exact e2, by rw [eg]; exact e3, by rw [eg]; exact e4⟩
        · have eg : gR (R ++ [ds]) j = gR R j := by
            have : j < R.length := by omega
            simp [gR, List.getD_eq_getElem?_getD, List.getElem?_append_left this]
          rw [eg]
          exact r2 j (by omega)
    obtain ⟨R, r1, r2⟩ := key n (Nat.le_refl _)
    refine ⟨some a, n, c, R, rfl, r1, fun j hj => ?_⟩
    obtain ⟨Aj, nj, cj, q1, q2, q3, q4⟩ := r2 j hj
    have hb : a.block < w.heap.size := by
      have := block_lt_of_cell q1
      rwa [blk_add] at this
    exact ⟨a, Aj, nj, cj, rfl, hb, q1, q2, q3, q4⟩
end
/-! ### a plain word -/
def plainC (c : UInt8) : Bool := c == 32 || (c == 9 || (c == 13 || (c == 10 || c == 35)))
def plainB (x : Bytes) : Bool := x.all (fun c => !plainC c) && !x.isEmpty
def GoodR (r : List Bytes) : Prop := r.length ≤ 20 ∧ ∀ x ∈ r, plainB x = true ∧ x.length ≤ 50
theorem plain_parts {x : Bytes} (h : plainB x = true) : x ≠ [] ∧ ∀ c ∈ x, blankC c = false ∧ c ≠ 35 ∧ c ≠ 10 := by
  unfold plainB at h
  simp only [Bool.and_eq_true] at h
  refine ⟨by have := h.2; simpa using this, fun c hc => ?_⟩
  have h1 := List.all_eq_true.1 h.1 c hc
  unfold plainC at h1
  simp at h1
  obtain ⟨q1, q2, q3, q4, q5⟩ := h1
  exact ⟨by unfold blankC; simp [q1, q2, q3], q5, q4⟩
/-- all rows as lines -/
def allL (R : Rowz) : Bytes := R.flatMap lineL
theorem allL_snoc (R : Rowz) (r : List Bytes) : allL (R ++ [r]) = allL R ++ lineL r := by simp [allL]
theorem jn_mem : ∀ (l : List Bytes) (c : UInt8), c ∈ jn l → c = 32 ∨ ∃ x ∈ l, c ∈ x
  | [], c, h => by rw [jn_nil] at h; cases h
  | [a], c, h => by rw [jn_one] at h; exact .inr ⟨a, by simp, h⟩
  | a :: b :: r, c, h => by
    rw [jn_cons] at h
    simp only [List.mem_append, List.mem_singleton] at h
    rcases h with (h | h) | h
    · exact .inr ⟨a, by simp, h⟩
    · exact .inl h
    · rcases jn_mem (b :: r) c h with h | ⟨x, hx, hc⟩
      · exact .inl h
      · exact .inr ⟨x, by simp at hx ⊢; exact .inr hx, hc⟩
theorem good_line {r : List Bytes} (h : GoodR r) : (10 : UInt8) ∉ jn r ∧ ∀ c ∈ jn r, c ≠ 35 := by
  refine ⟨fun hc => ?_, fun c hc e => ?_⟩
  · rcases jn_mem r 10 hc with h1 | ⟨x, hx, hm⟩
    · cases h1
    · exact ((plain_parts (h.2 x hx).1).2 10 hm).2.2 rfl
  · subst e
    rcases jn_mem r 35 hc with h1 | ⟨x, hx, hm⟩
    · cases h1
    · exact ((plain_parts (h.2 x hx).1).2 35 hm).2.1 rfl
theorem foldL_none : ∀ (x : Bytes) (o : List Bytes) (cur : Bytes), (10 : UInt8) ∉ x → x.foldl stL (o, cur) = (o, cur ++ x)
  | [], o, cur, _ => by simp
  | c :: r, o, cur, h => by
    have h1 : c ≠ 10 := fun e => h (by simp [e])
    rw [List.foldl_cons, stL_other h1, foldL_none r o (cur ++ [c]) (fun hc => h (by simp [hc]))]
    simp
theorem foldL_rows : ∀ (R : Rowz) (o : List Bytes), (∀ r ∈ R, GoodR r) → (allL R).foldl stL (o, []) = (o ++ R.map jn, [])
  | [], o, _ => by simp [allL]
  | r :: R, o, h => by
    have e : allL (r :: R) = jn r ++ ([10] ++ allL R) := by simp [allL, lineL_eq]
    rw [e, List.foldl_append, foldL_none _ _ _ (good_line (h r (by simp))).1, List.foldl_append, List.foldl_cons, List.foldl_nil, stL_ten, foldL_rows R _ (fun q hq => h q (by simp [hq]))]
    simp
theorem lines_rows {R : Rowz} (h : ∀ r ∈ R, GoodR r) : linesL (allL R) = R.map jn := by
  unfold linesL
  rw [foldL_rows R [] h]
  simp [finS]
theorem foldW_word : ∀ (x : Bytes) (o : List Bytes) (cur : Bytes), (∀ c ∈ x, blankC c = false) → x.foldl stW (o, cur) = (o, cur ++ x)
  | [], o, cur, _ => by simp
  | c :: r, o, cur, h => by
    rw [List.foldl_cons, stW_other (h c (by simp)), foldW_word r o (cur ++ [c]) (fun q hq => h q (by simp [hq]))]
    simp
theorem foldW_row : ∀ (r : List Bytes) (o : List Bytes), (∀ x ∈ r, x ≠ [] ∧ ∀ c ∈ x, blankC c = false) → finS ((jn r).foldl stW (o, [])) = o ++ r
  | [], o, _ => by simp [jn_nil, finS]
  | [a], o, h => by
    obtain ⟨h1, h2⟩ := h a (by simp)
    rw [jn_one, foldW_word a o [] h2]
    simp [finS, h1]
  | a :: b :: r, o, h => by
    obtain ⟨h1, h2⟩ := h a (by simp)
    rw [jn_cons, List.foldl_append, List.foldl_append, foldW_word a o [] h2, List.foldl_cons, List.foldl_nil, stW_fin (by decide)]
    have : finS (o, ([] : Bytes) ++ a) = o ++ [a] := by simp [finS, h1]
    rw [this, foldW_row (b :: r) (o ++ [a]) (fun x hx => h x (by simp at hx ⊢; exact .inr hx))]
    simp
theorem words_row {r : List Bytes} (h : GoodR r) : wordsL (jn r) = r := by
  have e : hashL (jn r) = jn r := by
    have := hash_none (good_line h).2 []
    simpa [hashL] using this
  unfold wordsL
  rw [e, foldW_row r [] (fun x hx => by
    obtain ⟨h1, h2⟩ := plain_parts (h.2 x hx).1
    exact ⟨h1, fun c hc => (h2 c hc).1⟩)]
  rfl
theorem line_len {r : List Bytes} (h : GoodR r) : (lineL r).length ≤ 1021 := by
  rw [lineL_eq, List.length_append]
  have := jn_len (B := 50) r (fun x hx => (h.2 x hx).2)
  have := h.1
  simp
  omega
theorem all_len : ∀ (R : Rowz), (∀ r ∈ R, GoodR r) → (allL R).length ≤ R.length * 1021
  | [], _ => by simp [allL]
  | r :: R, h => by
    have e : allL (r :: R) = lineL r ++ allL R := by simp [allL]
    have h1 := line_len (h r (by simp))
    have h2 := all_len R (fun q hq => h q (by simp [hq]))
    rw [e, List.length_append, List.length_cons, Nat.add_mul, Nat.one_mul]
    omega
end Go.Proofs.YtggdomeeienjbaaDoor
