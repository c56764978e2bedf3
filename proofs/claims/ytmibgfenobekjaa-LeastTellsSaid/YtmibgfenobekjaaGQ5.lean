/- Several texts of mine in one: Ints, EarlyRows, Ref15, Ref15b, Ref15c. No condition. -/
import Derived.Test.YtmibgfenobekjaaGQ19
import Derived.Test.YtmibgfenobekjaaChecked
import Derived.Test.YtmibgfenobekjaaEarlyMath
import Derived.Test.YtmibgfenobekjaaGQ0
import Derived.Test.YtmibgfenobekjaaGQ2
import Derived.Test.YtmibgfenobekjaaGQ4
import Derived.Test.YtmibgfenobekjaaTyEd

/- The document's own sameness of rows of ints. No condition. -/
namespace Go.Proofs.Ytmibgfenobekjaa
open Go.ChangeShapes Go.WideShapes Go.ChangeAt Go.RowKit Go.Sort
set_option linter.unusedSimpArgs false
set_option linter.unusedVariables false
theorem intAt {l : List Int} {k : Nat} (h : k < l.length) : (l.map (Value.int .i64))[k]? = some (.int .i64 (l.getD k 0)) := by
  rw [List.getElem?_map, List.getElem?_eq_getElem h, List.getD_eq_getElem?_getD, List.getElem?_eq_getElem h]; rfl
theorem Lst.atI {w : World} {B : Nat} {A : Option Addr} {n : Nat} {l : List Int} (h : Lst w B 1 A n (l.map (Value.int .i64))) (hl : l.length = n) {k : Nat} (hk : k < n) : ∃ ad, A = some ad ∧ ad.block < B ∧ w.cell? (ad.add k) = some (.int .i64 (l.getD k 0)) := by
  obtain ⟨ad, e, hb, hc⟩ := h.at_ (by omega)
  exact ⟨ad, e, hb, hc _ _ (intAt (by omega))⟩
theorem extI {a b : List Int} (hl : a.length = b.length) (h : ∀ i, i < a.length → a.getD i 0 = b.getD i 0) : a = b := by
  refine List.ext_getElem hl fun i h1 h2 => ?_
  have := h i h1
  rw [List.getD_eq_getElem?_getD, List.getElem?_eq_getElem h1, List.getD_eq_getElem?_getD, List.getElem?_eq_getElem h2] at this
  exact this
end Go.Proofs.Ytmibgfenobekjaa

/- Rows of times by rising nodes, and the tables that they are. Plain facts. -/
namespace Go.Proofs.Ytmibgfenobekjaa
open Go.ChangeShapes Go.WideShapes Go.ChangeAt Go.RowKit Go.Sort
set_option linter.unusedSimpArgs false
set_option linter.unusedVariables false
/-- When it is at that node, by the first one that tells. -/
def atR (r : List (Int × Int)) (n : Int) : Option Int := (r.find? (fun x => x.1 == n)).map (·.2)
def Srt (r : List (Int × Int)) : Prop := r.Pairwise (fun a b => a.1 < b.1)
theorem atR_nil (n : Int) : atR [] n = none := rfl
theorem atR_cons (x : Int × Int) (r : List (Int × Int)) (n : Int) : atR (x :: r) n = if x.1 = n then some x.2 else atR r n := by
  unfold atR
  by_cases h : x.1 = n
  · simp [h]
  · rw [if_neg h, List.find?_cons_of_neg (by simpa using h)]
theorem atR_mem {r : List (Int × Int)} {n u : Int} (h : atR r n = some u) : (n, u) ∈ r := by
  unfold atR at h
  cases hf : r.find? (fun x => x.1 == n) with
  | none => rw [hf] at h; cases h
  | some x =>
    rw [hf] at h
    have h1 := List.mem_of_find?_eq_some hf
    have h2 := List.find?_some hf
    simp at h h2
    rw [← h2, ← h]; exact h1
theorem atR_none {r : List (Int × Int)} {n : Int} : atR r n = none ↔ ∀ u, (n, u) ∉ r := by
  constructor
  · intro h u hm
    unfold atR at h
    rw [Option.map_eq_none_iff, List.find?_eq_none] at h
    have := h _ hm
    simp at this
  · intro h
    cases hu : atR r n with
    | none => rfl
    | some u => exact absurd (atR_mem hu) (h u)
theorem Srt.at_ : ∀ {r : List (Int × Int)} {n u : Int}, Srt r → (n, u) ∈ r → atR r n = some u
  | x :: r, n, u, h, hm => by
    have h1 := List.pairwise_cons.1 h
    rw [atR_cons]
    rcases List.mem_cons.1 hm with h2 | h2
    · subst h2; simp
    · have := h1.1 _ h2
      simp only at this
      rw [if_neg (by omega)]
      exact Srt.at_ h1.2 h2
theorem Srt.iff {r : List (Int × Int)} (h : Srt r) {n u : Int} : atR r n = some u ↔ (n, u) ∈ r := ⟨atR_mem, h.at_⟩
theorem Srt.ext : ∀ {r r' : List (Int × Int)}, Srt r → Srt r' → (∀ n, atR r n = atR r' n) → r = r'
  | [], [], _, _, _ => rfl
  | [], y :: s, _, _, he => by have := he y.1; rw [atR_nil, atR_cons, if_pos rfl] at this; cases this
  | x :: r, [], _, _, he => by have := he x.1; rw [atR_nil, atR_cons, if_pos rfl] at this; cases this
  | x :: r, y :: s, h, h', he => by
    have h1 := List.pairwise_cons.1 h
    have h2 := List.pairwise_cons.1 h'
    have hxy : x = y := by
      have hx : (x.1, x.2) ∈ y :: s := (Srt.iff h').1 (by rw [← he x.1, atR_cons, if_pos rfl])
      have hy : (y.1, y.2) ∈ x :: r := (Srt.iff h).1 (by rw [he y.1, atR_cons, if_pos rfl])
      rcases List.mem_cons.1 hx with h3 | h3
      · exact h3
      · rcases List.mem_cons.1 hy with h4 | h4
        · exact h4.symm
        · have h5 := h2.1 _ h3
          have h6 := h1.1 _ h4
          simp only at h5 h6
          omega
    subst hxy
    have hr : r = s := Srt.ext h1.2 h2.2 fun n => by
      have h3 := he n
      rw [atR_cons, atR_cons] at h3
      by_cases e : x.1 = n
      · subst e
        have a1 : atR r x.1 = none := atR_none.2 fun u hu => by have := h1.1 _ hu; simp only at this; omega
        have a2 : atR s x.1 = none := atR_none.2 fun u hu => by have := h2.1 _ hu; simp only at this; omega
        rw [a1, a2]
      · rw [if_neg e, if_neg e] at h3; exact h3
    rw [hr]
/-- Times in which that of a node is so. -/
def withR (n a : Int) : List (Int × Int) → Bool → List (Int × Int)
  | [], laid => if laid = true then [] else [(n, a)]
  | x :: r, laid => (if laid = false ∧ n ≤ x.1 then [(n, a)] else []) ++ (if x.1 = n then [] else [x]) ++ withR n a r (laid || decide (n ≤ x.1))
theorem withR_mem {n a : Int} {y : Int × Int} : ∀ {r : List (Int × Int)} {laid : Bool}, y ∈ withR n a r laid ↔ (laid = false ∧ y = (n, a)) ∨ (y ∈ r ∧ y.1 ≠ n)
  | [], true => by simp [withR]
  | [], false => by simp [withR]
  | x :: r, laid => by
    have ih := withR_mem (n := n) (a := a) (y := y) (r := r) (laid := laid || decide (n ≤ x.1))
    rw [withR, List.mem_append, List.mem_append, ih]
    by_cases h1 : n ≤ x.1 <;> by_cases h2 : x.1 = n <;> cases laid <;> simp [h1, h2]
    all_goals (try (by_cases hy : y = x <;> simp [hy, h2] <;> (try omega)))
theorem withR_srt {n a : Int} : ∀ {r : List (Int × Int)}, Srt r → (Srt (withR n a r true)) ∧ Srt (withR n a r false)
  | [], _ => by simp [withR, Srt]
  | x :: r, h => by
    have h1 := List.pairwise_cons.1 h
    obtain ⟨i1, i2⟩ := withR_srt (n := n) (a := a) h1.2
    have key : Srt ((if x.1 = n then [] else [x]) ++ withR n a r true) := by
      by_cases e : x.1 = n
      · rw [if_pos e]; exact i1
      · rw [if_neg e]
        refine List.pairwise_cons.2 ⟨fun y hy => ?_, i1⟩
        rcases withR_mem.1 hy with h2 | h2
        · simp at h2
        · exact h1.1 y h2.1
    refine ⟨?_, ?_⟩
    · rw [withR, if_neg (by simp), List.nil_append, Bool.true_or]; exact key
    · rw [withR]
      by_cases hc : n ≤ x.1
      · rw [if_pos ⟨rfl, hc⟩, show (false || decide (n ≤ x.1)) = true by simp [hc], List.append_assoc]
        show Srt ((n, a) :: ((if x.1 = n then [] else [x]) ++ withR n a r true))
        refine List.pairwise_cons.2 ⟨fun y hy => ?_, key⟩
        rcases List.mem_append.1 hy with h2 | h2
        · by_cases e : x.1 = n
          · rw [if_pos e] at h2; cases h2
          · rw [if_neg e] at h2
            rw [List.mem_singleton.1 h2]
            show n < x.1
            omega
        · rcases withR_mem.1 h2 with h3 | h3
          · simp at h3
          · have := h1.1 y h3.1
            show n < y.1
            omega
      · rw [if_neg (fun e => hc e.2), List.nil_append, if_neg (by omega), show (false || decide (n ≤ x.1)) = false by simp [hc]]
        refine List.pairwise_cons.2 ⟨fun y hy => ?_, i2⟩
        rcases withR_mem.1 hy with h2 | h2
        · rw [h2.2]; show x.1 < n; omega
        · exact h1.1 y h2.1
theorem withR_at {r : List (Int × Int)} (h : Srt r) (n a : Int) : atR (withR n a r false) = setT (atR r) n a := by
  funext m
  have hs := (withR_srt (n := n) (a := a) h).2
  by_cases e : m = n
  · subst e
    rw [setT_same]
    exact hs.at_ (withR_mem.2 (.inl ⟨rfl, rfl⟩))
  · rw [setT_ne _ _ e]
    cases hu : atR r m with
    | none =>
      rw [atR_none] at hu ⊢
      intro u hm
      rcases withR_mem.1 hm with h2 | h2
      · exact e (by have := h2.2; injection this)
      · exact hu u h2.1
    | some u => exact hs.at_ (withR_mem.2 (.inr ⟨atR_mem hu, e⟩))
end Go.Proofs.Ytmibgfenobekjaa

/- The document's own earliest times: in, At, Same. They leave the world as it is, or make new memory alone. -/
namespace Go.Proofs.Ytmibgfenobekjaa
open Go.ChangeShapes Go.WideShapes Go.ChangeAt Go.RowKit Go.Sort Hp
set_option linter.unusedSimpArgs false
set_option linter.unusedVariables false
theorem atR_at : ∀ {d : List (Int × Int)} {i : Nat} {n : Int}, i < d.length → (gt d i).1 = n → (∀ j, j < i → (gt d j).1 ≠ n) → atR d n = some (gt d i).2
  | x :: r, 0, n, _, h, _ => by
    have h' : x.1 = n := h
    rw [atR_cons, if_pos h']; rfl
  | x :: r, i + 1, n, hi, h, hn => by
    have h0 : x.1 ≠ n := hn 0 (by omega)
    rw [atR_cons, if_neg h0]
    exact atR_at (d := r) (i := i) (by simpa using hi) h (fun j hj => hn (j + 1) (by omega))
theorem atR_off : ∀ {d : List (Int × Int)} {n : Int}, (∀ j, j < d.length → (gt d j).1 ≠ n) → atR d n = none
  | [], n, _ => rfl
  | x :: r, n, h => by
    have h0 : x.1 ≠ n := h 0 (by simp)
    rw [atR_cons, if_neg h0]
    exact atR_off (d := r) fun j hj => h (j + 1) (by simpa using hj)
theorem take_next2 {l : List (Int × Int)} {i : Nat} (h : i < l.length) : l.take (i + 1) = l.take i ++ [gt l i] := by
  rw [List.take_succ_eq_append_getElem h]
  unfold gt
  rw [List.getD_eq_getElem?_getD, List.getElem?_eq_getElem h]; rfl
theorem neq2 (x y : Int × Int) (w : World) : (binOp .neq 61 (.agg #[.int .i64 x.1, .int .i64 x.2]) (.agg #[.int .i64 y.1, .int .i64 y.2])).run Try.prog w = .ok (.bool (!decide (x = y))) w := by
  have u3 := Try.underlying3
  have a3 := Try.isAgg3
  have z3 := Try.sizeOf3
  have hS : Try.prog.underlying 61 = some (.struct (Try.prog.fieldsOf 61)) := by kernel_rfl
  have hp : Try.prog.stoodInHeld 61 = false := by kernel_rfl
  rw [run_neq_struct, show (10000 : Nat) = 9999 + 1 from rfl, run_equalIn_agg w 9999 61 _ _ hS hp]
  simp only [Program.fieldsOf, Try.underlying61]
  go_simp
  obtain ⟨a, b⟩ := x
  obtain ⟨c, d⟩ := y
  by_cases h0 : a = c <;> by_cases h1 : b = d <;> simp_all
end Go.Proofs.Ytmibgfenobekjaa

/- The document's own earliest times: with. It makes new memory alone. -/
namespace Go.Proofs.Ytmibgfenobekjaa
open Go.ChangeShapes Go.WideShapes Go.ChangeAt Go.RowKit Go.Sort Hp
set_option linter.unusedSimpArgs false
set_option linter.unusedVariables false
theorem drop_cons2 {d : List (Int × Int)} {i : Nat} (h : i < d.length) : d.drop i = gt d i :: d.drop (i + 1) := by
  rw [List.drop_eq_getElem_cons h]
  unfold gt
  rw [List.getD_eq_getElem?_getD, List.getElem?_eq_getElem h]; rfl
theorem withR_len {n a : Int} : ∀ (r : List (Int × Int)) (laid : Bool), (withR n a r laid).length ≤ r.length + 1
  | [], laid => by cases laid <;> simp [withR]
  | x :: r, laid => by
    have h1 := withR_len (n := n) (a := a) r true
    have h2 := withR_len (n := n) (a := a) r false
    have h3 : ∀ r : List (Int × Int), (withR n a r true).length ≤ r.length := by
      intro r
      induction r with
      | nil => simp [withR]
      | cons y s ih =>
        rw [withR, if_neg (by simp), List.nil_append, Bool.true_or, List.length_append]
        by_cases e : y.1 = n <;> simp [e] <;> omega
    have h4 := h3 r
    rw [withR, List.length_append, List.length_append]
    by_cases hc : n ≤ x.1 <;> by_cases e : x.1 = n <;> cases laid <;> simp [hc, e] <;> omega
end Go.Proofs.Ytmibgfenobekjaa

/- The document's own earliest times: step, Times. They make new memory alone. -/
namespace Go.Proofs.Ytmibgfenobekjaa
open Go.ChangeShapes Go.WideShapes Go.ChangeAt Go.RowKit Go.Sort Hp
set_option linter.unusedSimpArgs false
set_option linter.unusedVariables false
theorem rnd_next {size : Int} {no : Int → Bool} {l : List Ed} {T : Int → Option Int} {i : Nat} (h : i < l.length) : rndE size no (l.take (i + 1)) T = relE size no (rndE size no (l.take i) T) (gEd l i) := by
  unfold rndE
  rw [List.take_succ_eq_append_getElem h, List.foldl_append]
  show relE size no _ l[i] = _
  rw [gEd_eq h]
end Go.Proofs.Ytmibgfenobekjaa
