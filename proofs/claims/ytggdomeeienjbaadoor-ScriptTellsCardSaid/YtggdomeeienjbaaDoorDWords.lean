
/- Package direct: the words of a deed, where a word stands, numbers of words. They make new memory alone. -/
import Derived.Test.YtggdomeeienjbaaDoorWRef
import Derived.Test.YtggdomeeienjbaaDoorParse
import Derived.Test.YtggdomeeienjbaaDoorInts
import Derived.Test.YtggdomeeienjbaaDoorStep
import Derived.Test.YtggdomeeienjbaaDoorWOpen
namespace Go.Proofs.YtggdomeeienjbaaDoor
open Go.ChangeShapes Go.WideShapes Go.ChangeAt Go.RowKit Go.Sort
set_option linter.unusedSimpArgs false
set_option linter.unusedVariables false
def opW : List Bytes := [[], [97], [100], [99]]
def kdW : List Bytes := [[], [99, 111, 110, 116, 97, 99, 116], [114, 97, 110, 103, 101]]
theorem opw_any (w : World) : Calls Tryd.prog 31 #[] w fun e w' => e = .returned (.slice (some ⟨w.heap.size, 0, none⟩) 4 4) ∧ Sl w' w'.heap.size 1 (some ⟨w.heap.size, 0, none⟩) 4 4 (vs opW) ∧ Below w.heap.size w w' := by
  have ho := own_lit w w.heap.size 9 1 4 #[.string (bs []), .string (bs [97]), .string (bs [100]), .string (bs [99])] (Nat.le_refl _) rfl (by simp [maxLen])
  have hB : Below w.heap.size w (w.alloc (.cells #[.string (bs []), .string (bs [97]), .string (bs [100]), .string (bs [99])] 9)) := by (repeat (first | exact Below.refl _ _ | refine Below.alloc ?_ (by first | omega | (simp; done) | (simp; omega)) _ | refine Below.setCell ?_ (by first | omega | (simp; done) | (simp; omega)) _ | refine Below.drew ?_))
  go_enter Tryd.func31, Tryd.ntmps31
  go_wp2_with fail
  go_ret
  exact ⟨rfl, Sl.of_own ho, hB⟩
theorem kdw_any (w : World) : Calls Tryd.prog 32 #[] w fun e w' => e = .returned (.slice (some ⟨w.heap.size, 0, none⟩) 3 3) ∧ Sl w' w'.heap.size 1 (some ⟨w.heap.size, 0, none⟩) 3 3 (vs kdW) ∧ Below w.heap.size w w' := by
  have ho := own_lit w w.heap.size 9 1 3 #[.string (bs []), .string (bs [99, 111, 110, 116, 97, 99, 116]), .string (bs [114, 97, 110, 103, 101])] (Nat.le_refl _) rfl (by simp [maxLen])
  have hB : Below w.heap.size w (w.alloc (.cells #[.string (bs []), .string (bs [99, 111, 110, 116, 97, 99, 116]), .string (bs [114, 97, 110, 103, 101])] 9)) := by (repeat (first | exact Below.refl _ _ | refine Below.alloc ?_ (by first | omega | (simp; done) | (simp; omega)) _ | refine Below.setCell ?_ (by first | omega | (simp; done) | (simp; omega)) _ | refine Below.drew ?_))
  go_enter Tryd.func32, Tryd.ntmps32
  go_wp2_with fail
  go_ret
  exact ⟨rfl, Sl.of_own ho, hB⟩
/-- Where a word stands; 0 if it does not. -/
def placeF (d : List Bytes) (x : Bytes) : Int := match (List.range d.length).find? (fun i => decide (1 ≤ i) && decide (gS d i = x)) with
  | some i => (i : Int)
  | none => 0
theorem place_at {d : List Bytes} {x : Bytes} {i : Nat} (h1 : 1 ≤ i) (hi : i < d.length) (hx : gS d i = x) (hn : ∀ j, 1 ≤ j → j < i → gS d j ≠ x) : placeF d x = (i : Int) := by
  unfold placeF
  have h : (List.range d.length).find? (fun i => decide (1 ≤ i) && decide (gS d i = x)) = some i := by
    rw [List.find?_eq_some_iff_getElem]
    refine ⟨by simp [h1, hx], i, by simpa using hi, by simp, fun j hj => ?_⟩
    simp only [List.getElem_range, Bool.not_eq_true', Bool.and_eq_false_iff, decide_eq_false_iff_not]
    by_cases hj1 : 1 ≤ j
    · exact .inr (hn j hj1 hj)
    · exact .inl hj1
  rw [h]
theorem place_none {d : List Bytes} {x : Bytes} (hn : ∀ j, 1 ≤ j → j < d.length → gS d j ≠ x) : placeF d x = 0 := by
  unfold placeF
  have h : (List.range d.length).find? (fun i => decide (1 ≤ i) && decide (gS d i = x)) = none := by
    rw [List.find?_eq_none]
    intro j hj
    have hj' := List.mem_range.1 hj
    simp only [Bool.and_eq_true, decide_eq_true_eq, not_and]
    intro h1
    exact hn j h1 hj'
  rw [h]
def opF (x : Bytes) : Int := if x = [97] then 1 else if x = [100] then 2 else if x = [99] then 3 else 0
def kdF (x : Bytes) : Int := if x = [99, 111, 110, 116, 97, 99, 116] then 1 else if x = [114, 97, 110, 103, 101] then 2 else 0
theorem place_op (x : Bytes) : placeF opW x = opF x := by
  unfold opF
  split
  · rename_i h; subst h
    exact place_at (i := 1) (by omega) (by decide) rfl (fun j h1 h2 => by omega)
  · rename_i h1
    split
    · rename_i h; subst h
      refine place_at (i := 2) (by omega) (by decide) rfl ?_
      intro j h1 h2
      obtain rfl : j = 1 := by omega
      decide
    · rename_i h2
      split
      · rename_i h; subst h
        refine place_at (i := 3) (by omega) (by decide) rfl ?_
        intro j h1 h2
        have hj : j = 1 ∨ j = 2 := by omega
        rcases hj with rfl | rfl <;> decide
      · rename_i h3
        refine place_none fun j hj1 hj2 => ?_
        have hj : j = 1 ∨ j = 2 ∨ j = 3 := by
          have : opW.length = 4 := rfl
          omega
        rcases hj with rfl | rfl | rfl
        · exact fun e => h1 e.symm
        · exact fun e => h2 e.symm
        · exact fun e => h3 e.symm
theorem place_kd (x : Bytes) : placeF kdW x = kdF x := by
  unfold kdF
  split
  · rename_i h; subst h
    exact place_at (i := 1) (by omega) (by decide) rfl (fun j h1 h2 => by omega)
  · rename_i h1
    split
    · rename_i h; subst h
      refine place_at (i := 2) (by omega) (by decide) rfl ?_
      intro j h1 h2
      obtain rfl : j = 1 := by omega
      decide
    · rename_i h2
      refine place_none fun j hj1 hj2 => ?_
      have hj : j = 1 ∨ j = 2 := by
        have : kdW.length = 3 := rfl
        omega
      rcases hj with rfl | rfl
      · exact fun e => h1 e.symm
      · exact fun e => h2 e.symm
theorem infoI04 : (Tryd.prog.info? 3).map (fun i => (i.zero, i.size, i.bytes)) = some (some (.int .i64 0), 1, 8) := by kernel_rfl
theorem ints_app04 (a : List Int) (x : Int) : (a ++ [x]).map (Value.int .i64) = a.map (Value.int .i64) ++ [.int .i64 x] := by simp
/-- The numbers of words, if all are. -/
def numsF (d : List Bytes) : Option (List Int) := d.mapM (fun x => parseF x 2147483647)
theorem mapM_snoc {α β : Type} (f : α → Option β) : ∀ (l : List α) (x : α), (l ++ [x]).mapM f = (l.mapM f).bind fun a => (f x).map fun b => a ++ [b]
  | [], x => by cases h : f x <;> simp [h]
  | y :: l, x => by
    rw [List.cons_append, List.mapM_cons, List.mapM_cons, mapM_snoc f l x]
    cases f y <;> simp
    cases l.mapM f <;> simp
    cases f x <;> simp
theorem mapM_stop {α β : Type} (f : α → Option β) : ∀ (l : List α) (x : α), x ∈ l → f x = none → l.mapM f = none
  | [], _, h, _ => by cases h
  | y :: l, x, h, hx => by
    rw [List.mapM_cons]
    rcases List.mem_cons.1 h with rfl | h
    · simp [hx]
    · rw [mapM_stop f l x h hx]
      cases f y <;> simp
theorem numsF_len : ∀ {d : List Bytes} {ns : List Int}, numsF d = some ns → ns.length = d.length
  | [], ns, h => by simp [numsF] at h; subst h; rfl
  | x :: d, ns, h => by
    unfold numsF at h
    rw [List.mapM_cons] at h
    cases h1 : parseF x 2147483647 with
    | none => rw [h1] at h; simp at h
    | some a =>
      rw [h1] at h
      cases h2 : d.mapM (fun x => parseF x 2147483647) with
      | none => rw [h2] at h; simp at h
      | some b =>
        rw [h2] at h
        simp at h
        subst h
        have := numsF_len (d := d) (ns := b) h2
        simp [this]
theorem numV_some (n : Int) : numV (some n) = .tuple #[.int .i64 n, .bool true] := rfl
theorem numV_none : numV none = .tuple #[.int .i64 0, .bool false] := rfl
/-- What direct.numbers tells. -/
def NumsRet (base : Nat) (d : List Bytes) (w : World) (e : Ending) (w' : World) : Prop :=
  match numsF d with
  | some ns => ∃ v, e = .returned (.tuple #[v, .bool true]) ∧ w'.ownsRow base 3 1 v d.length (ns.map (Value.int .i64)) ∧ Below w.heap.size w w'
  | none => e = .returned (.tuple #[.slice none 0 0, .bool false]) ∧ Below w.heap.size w w'
end Go.Proofs.YtggdomeeienjbaaDoor
