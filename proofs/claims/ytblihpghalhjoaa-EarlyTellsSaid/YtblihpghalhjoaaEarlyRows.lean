/- Rows of times by rising nodes, and the tables that they are. Plain facts. -/
import Derived.Test.YtblihpghalhjoaaEarlyMath
import Derived.Test.YtblihpghalhjoaaHeapMath
namespace Go.Proofs.Ytblihpghalhjoaa
open Go.ChangeShapes Go.WideShapes Go.ChangeAt Go.RowKit Go.Sort
set_option linter.unusedSimpArgs false
set_option linter.unusedVariables false
/-- When it is at that node, by the first one that tells. -/
def atR (r : List (Int × Int)) (n : Int) : Option Int := (r.find? (fun x => x.1 == n)).map (·.2)
def Srt (r : List (Int × Int)) : Prop := r.Pairwise (fun a b => a.1 < b.1)
theorem atR_nil (n : Int) : atR [] n = none := rfl
theorem atR_cons (x : Int × Int) (r : List (Int × Int)) (n : Int) : atR (x :: r) n = if x.1 = n then some x.2 else atR r n := by
  unfold atR
  by_cases h : x.1 = n
  · simp [h]
  · rw [if_neg h, List.find?_cons_of_neg (by simpa using h)]
theorem atR_mem {r : List (Int × Int)} {n u : Int} (h : atR r n = some u) : (n, u) ∈ r := by
  unfold atR at h
  cases hf : r.find? (fun x => x.1 == n) with
  | none => rw [hf] at h; cases h
  | some x =>
    rw [hf] at h
    have h1 := List.mem_of_find?_eq_some hf
    have h2 := List.find?_some hf
    simp at h h2
    rw [← h2, ← h]; exact h1
theorem atR_none {r : List (Int × Int)} {n : Int} : atR r n = none ↔ ∀ u, (n, u) ∉ r := by
  constructor
  · intro h u hm
    unfold atR at h
    rw [Option.map_eq_none_iff, List.find?_eq_none] at h
    have := h _ hm
    simp at this
  · intro h
    cases hu : atR r n with
    | none => rfl
    | some u => exact absurd (atR_mem hu) (h u)
theorem Srt.at_ : ∀ {r : List (Int × Int)} {n u : Int}, Srt r → (n, u) ∈ r → atR r n = some u
  | x :: r, n, u, h, hm => by
    have h1 := List.pairwise_cons.1 h
    rw [atR_cons]
    rcases List.mem_cons.1 hm with h2 | h2
    · subst h2; simp
    · have := h1.1 _ h2
      simp only at this
      rw [if_neg (by omega)]
      exact Srt.at_ h1.2 h2
theorem Srt.iff {r : List (Int × Int)} (h : Srt r) {n u : Int} : atR r n = some u ↔ (n, u) ∈ r := ⟨atR_mem, h.at_⟩
theorem Srt.ext : ∀ {r r' : List (Int × Int)}, Srt r → Srt r' → (∀ n, atR r n = atR r' n) → r = r'
  | [], [], _, _, _ => rfl
  | [], y :: s, _, _, he => by have := he y.1; rw [atR_nil, atR_cons, if_pos rfl] at this; cases this
  | x :: r, [], _, _, he => by have := he x.1; rw [atR_nil, atR_cons, if_pos rfl] at this; cases this
  | x :: r, y :: s, h, h', he => by
    have h1 := List.pairwise_cons.1 h
    have h2 := List.pairwise_cons.1 h'
    have hxy : x = y := by
      have hx : (x.1, x.2) ∈ y :: s := (Srt.iff h').1 (by rw [← he x.1, atR_cons, if_pos rfl])
      have hy : (y.1, y.2) ∈ x :: r := (Srt.iff h).1 (by rw [he y.1, atR_cons, if_pos rfl])
      rcases List.mem_cons.1 hx with h3 | h3
      · exact h3
      · rcases List.mem_cons.1 hy with h4 | h4
        · exact h4.symm
        · have h5 := h2.1 _ h3
          have h6 := h1.1 _ h4
          simp only at h5 h6
          omega
    subst hxy
    have hr : r = s := Srt.ext h1.2 h2.2 fun n => by
      have h3 := he n
      rw [atR_cons, atR_cons] at h3
      by_cases e : x.1 = n
      · subst e
        have a1 : atR r x.1 = none := atR_none.2 fun u hu => by have := h1.1 _ hu; simp only at this; omega
        have a2 : atR s x.1 = none := atR_none.2 fun u hu => by have := h2.1 _ hu; simp only at this; omega
        rw [a1, a2]
      · rw [if_neg e, if_neg e] at h3; exact h3
    rw [hr]
/-- Times in which that of a node is so. -/
def withR (n a : Int) : List (Int × Int) → Bool → List (Int × Int)
  | [], laid => if laid = true then [] else [(n, a)]
  | x :: r, laid => (if laid = false ∧ n ≤ x.1 then [(n, a)] else []) ++ (if x.1 = n then [] else [x]) ++ withR n a r (laid || decide (n ≤ x.1))
theorem withR_mem {n a : Int} {y : Int × Int} : ∀ {r : List (Int × Int)} {laid : Bool}, y ∈ withR n a r laid ↔ (laid = false ∧ y = (n, a)) ∨ (y ∈ r ∧ y.1 ≠ n)
  | [], true => by simp [withR]
  | [], false => by simp [withR]
  | x :: r, laid => by
    have ih := withR_mem (n := n) (a := a) (y := y) (r := r) (laid := laid || decide (n ≤ x.1))
    rw [withR, List.mem_append, List.mem_append, ih]
    by_cases h1 : n ≤ x.1 <;> by_cases h2 : x.1 = n <;> cases laid <;> simp [h1, h2]
    all_goals (try (by_cases hy : y = x <;> simp [hy, h2] <;> (try omega)))
theorem withR_srt {n a : Int} : ∀ {r : List (Int × Int)}, Srt r → (Srt (withR n a r true)) ∧ Srt (withR n a r false)
  | [], _ => by simp [withR, Srt]
  | x :: r, h => by
    have h1 := List.pairwise_cons.1 h
    obtain ⟨i1, i2⟩ := withR_srt (n := n) (a := a) h1.2
    have key : Srt ((if x.1 = n then [] else [x]) ++ withR n a r true) := by
      by_cases e : x.1 = n
      · rw [if_pos e]; exact i1
      · rw [if_neg e]
        refine List.pairwise_cons.2 ⟨fun y hy => ?_, i1⟩
        rcases withR_mem.1 hy with h2 | h2
        · simp at h2
        · exact h1.1 y h2.1
    refine ⟨?_, ?_⟩
    · rw [withR, if_neg (by simp), List.nil_append, Bool.true_or]; exact key
    · rw [withR]
      by_cases hc : n ≤ x.1
      · rw [if_pos ⟨rfl, hc⟩, show (false || decide (n ≤ x.1)) = true by simp [hc], List.append_assoc]
        show Srt ((n, a) :: ((if x.1 = n then [] else [x]) ++ withR n a r true))
        refine List.pairwise_cons.2 ⟨fun y hy => ?_, key⟩
        rcases List.mem_append.1 hy with h2 | h2
        · by_cases e : x.1 = n
          · rw [if_pos e] at h2; cases h2
          · rw [if_neg e] at h2
            rw [List.mem_singleton.1 h2]
            show n < x.1
            omega
        · rcases withR_mem.1 h2 with h3 | h3
          · simp at h3
          · have := h1.1 y h3.1
            show n < y.1
            omega
      · rw [if_neg (fun e => hc e.2), List.nil_append, if_neg (by omega), show (false || decide (n ≤ x.1)) = false by simp [hc]]
        refine List.pairwise_cons.2 ⟨fun y hy => ?_, i2⟩
        rcases withR_mem.1 hy with h2 | h2
        · rw [h2.2]; show x.1 < n; omega
        · exact h1.1 y h2.1
theorem withR_at {r : List (Int × Int)} (h : Srt r) (n a : Int) : atR (withR n a r false) = setT (atR r) n a := by
  funext m
  have hs := (withR_srt (n := n) (a := a) h).2
  by_cases e : m = n
  · subst e
    rw [setT_same]
    exact hs.at_ (withR_mem.2 (.inl ⟨rfl, rfl⟩))
  · rw [setT_ne _ _ e]
    cases hu : atR r m with
    | none =>
      rw [atR_none] at hu ⊢
      intro u hm
      rcases withR_mem.1 hm with h2 | h2
      · exact e (by have := h2.2; injection this)
      · exact hu u h2.1
    | some u => exact hs.at_ (withR_mem.2 (.inr ⟨atR_mem hu, e⟩))
end Go.Proofs.Ytblihpghalhjoaa
