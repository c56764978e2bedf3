/- Add, Delete and Change of a right table, in one form. No condition. -/
import Derived.Test.YtglhembdlipccaaRangesRt
namespace Go.Proofs.Ytglhembdlipccaa
open Go.ChangeShapes Go.WideShapes Go.ChangeAt Go.RowKit Go.Sort
set_option linter.unusedSimpArgs false
set_option linter.unusedVariables false
/-- What a call leaves: a right table; with an error the same; else as many more; whoever is not the named one is there still. -/
structure ActR (d e : List Rg) (q dl : Int) (r : Rg) : Prop where
  right : rightB e = true
  same : q ≠ 0 → e = d
  len : q = 0 → (e.length : Int) - (d.length : Int) = dl
  keep : ∀ x ∈ d, sameR x r = false → x ∈ e
  short : e.length ≤ d.length + 1
theorem ActR.err {d : List Rg} {q dl : Int} {r : Rg} (h : rightB d = true) (hq : q ≠ 0) : ActR d d q dl r := ⟨h, fun _ => rfl, fun e => absurd e hq, fun _ hx _ => hx, by omega⟩
theorem act_add (A : Option Addr) (n c : Nat) (d : List Rg) (r : Rg) (w : World) (hd : d.length = n) (hn : n ≤ 1000000 - 1) (h : Sl w w.heap.size 5 A n c (flatRg d)) (hr : rightB d = true) :
    Calls Try.prog 9 #[.slice A n c, .agg #[.int .i64 r.fr, .int .i64 r.tn, .int .i64 r.st, .int .i64 r.en, .int .i64 r.ow]] w fun e w' => ∃ v q l, e = .returned (.tuple #[v, .int .i64 q]) ∧ ActR d l q 1 r ∧ w'.ownsRow w.heap.size 27 5 v l.length (flatRg l) ∧ Below w.heap.size w w' := by
  by_cases hm : mayF d r = 0
  · refine (add_yes A n c d r w hd hn h hm).mono ?_
    rintro e w' ⟨v, i, rfl, hi, h1, h2, hv, hb⟩
    have hi' : i ≤ d.length := by omega
    refine ⟨v, 0, insR d i r, rfl, ⟨right_ins hr hm hi' h1 (by rw [hd]; exact h2), fun e => absurd rfl e, fun _ => by rw [insR_length r hi']; omega, fun x hx _ => ?_, by rw [insR_length r hi']; omega⟩, ?_, hb⟩
    · rw [← List.take_append_drop i d] at hx
      unfold insR
      simp only [List.mem_append, List.mem_singleton] at hx ⊢
      rcases hx with hx | hx
      · exact .inl (.inl hx)
      · exact .inr hx
    · rw [insR_length r hi', hd]
      exact hv
  · refine (add_no A n c d r w _ hd (by omega) h rfl hm).mono ?_
    rintro e w' ⟨v, rfl, hv, hb⟩
    exact ⟨v, _, d, rfl, ActR.err hr hm, by rw [hd]; exact hv, hb⟩
theorem filter_one {d : List Rg} (h1 : d.Pairwise befR) {r : Rg} : (d.filter (fun x => !sameR x r)).length = d.length ∨ (d.filter (fun x => !sameR x r)).length + 1 = d.length := by
  induction d with
  | nil => exact .inl rfl
  | cons a d ih =>
    rw [List.pairwise_cons] at h1
    rw [List.filter_cons]
    cases hsa : sameR a r
    · rw [if_pos (by rfl)]
      simp only [List.length_cons]
      rcases ih h1.2 with h | h <;> omega
    · rw [if_neg (by decide)]
      rw [List.filter_eq_self.2 (fun x hx => ?_)]
      · exact .inr rfl
      · have hl := (h1.1 x hx).1
        unfold sameR at hsa ⊢
        rw [decide_eq_true_eq] at hsa
        unfold ltR at hl
        simp
        omega
theorem act_del (A : Option Addr) (n c : Nat) (d : List Rg) (r : Rg) (w : World) (hd : d.length = n) (hn : n ≤ 1000000) (h : Sl w w.heap.size 5 A n c (flatRg d)) (hr : rightB d = true) :
    Calls Try.prog 10 #[.slice A n c, .agg #[.int .i64 r.fr, .int .i64 r.tn, .int .i64 r.st, .int .i64 r.en, .int .i64 r.ow]] w fun e w' => ∃ v q l, e = .returned (.tuple #[v, .int .i64 q]) ∧ ActR d l q (-1) r ∧ w'.ownsRow w.heap.size 27 5 v l.length (flatRg l) ∧ Below w.heap.size w w' := by
  refine (del_any A n c d r w hd hn h).mono ?_
  rintro e w' ⟨v, rfl, hv, hb⟩
  refine ⟨v, _, _, rfl, ⟨right_filter hr _, fun hq => ?_, fun hq => ?_, fun x hx hxr => ?_, ?_⟩, hv, hb⟩
  · unfold delCode at hq
    by_cases e : (d.filter (fun x => !sameR x r)).length = n
    · exact List.filter_eq_self.2 (by
        have := List.length_filter_eq_length_iff.1 (e.trans hd.symm)
        exact this)
    · rw [if_neg e] at hq; exact absurd rfl hq
  · unfold delCode at hq
    by_cases e : (d.filter (fun x => !sameR x r)).length = n
    · rw [if_pos e] at hq; cases hq
    · rcases filter_one (sort_of_right hr).ord (r := r) with h' | h' <;> omega
  · rw [List.mem_filter]
    exact ⟨hx, by rw [hxr]; rfl⟩
  · exact Nat.le_succ_of_le (List.length_filter_le _ _)
theorem first_same (d : List Rg) (r : Rg) : (∀ j, j < d.length → sameR (gRg d j) r = false) ∨ ∃ q, q < d.length ∧ (∀ j, j < q → sameR (gRg d j) r = false) ∧ sameR (gRg d q) r = true := by
  by_cases h : ∃ q, q < d.length ∧ sameR (gRg d q) r = true
  · refine .inr ?_
    obtain ⟨q, hq, hs⟩ := h
    induction q using Nat.strongRecOn with
    | ind q ih =>
      by_cases h2 : ∃ j, j < q ∧ sameR (gRg d j) r = true
      · obtain ⟨j, hj, hsj⟩ := h2
        exact ih j hj (by omega) hsj
      · refine ⟨q, hq, fun j hj => ?_, hs⟩
        cases e : sameR (gRg d j) r
        · rfl
        · exact absurd ⟨j, hj, e⟩ h2
  · refine .inl fun j hj => ?_
    cases e : sameR (gRg d j) r
    · rfl
    · exact absurd ⟨j, hj, e⟩ h
theorem act_change (A : Option Addr) (n c : Nat) (d : List Rg) (r : Rg) (w : World) (hd : d.length = n) (hn : n ≤ 1000000) (h : Sl w w.heap.size 5 A n c (flatRg d)) (hr : rightB d = true) :
    Calls Try.prog 11 #[.slice A n c, .agg #[.int .i64 r.fr, .int .i64 r.tn, .int .i64 r.st, .int .i64 r.en, .int .i64 r.ow]] w fun e w' => ∃ v q l, e = .returned (.tuple #[v, .int .i64 q]) ∧ ActR d l q 0 r ∧ w'.ownsRow w.heap.size 27 5 v l.length (flatRg l) ∧ Below w.heap.size w w' := by
  cases ho : inB r.ow 0 2147483647
  · refine (change_arg A n c d r w hd hn h ho).mono ?_
    rintro e w' ⟨v, rfl, hv, hb⟩
    exact ⟨v, 1, d, rfl, ActR.err hr (by decide), by rw [hd]; exact hv, hb⟩
  · rcases first_same d r with hno | ⟨q, hq, hbef, hat⟩
    · refine (change_none A n c d r w hd hn h ho (by rw [← hd]; exact hno)).mono ?_
      rintro e w' ⟨v, rfl, hv, hb⟩
      exact ⟨v, 6, d, rfl, ActR.err hr (by decide), by rw [hd]; exact hv, hb⟩
    · refine (change_yes A n c d r w q hd hn h ho (by omega) hbef hat).mono ?_
      rintro e w' ⟨v, rfl, hv, hb⟩
      have hor : 0 ≤ r.ow ∧ r.ow ≤ 2147483647 := by
        unfold inB at ho
        simp at ho
        omega
      refine ⟨v, 0, d.set q (withOw (gRg d q) r.ow), rfl, ⟨right_set hr hq hor.1 hor.2, fun e => absurd rfl e, fun _ => by rw [List.length_set]; omega, fun x hx hxr => ?_, by rw [List.length_set]; omega⟩, by rw [List.length_set, hd]; exact hv, hb⟩
      obtain ⟨j, hj, rfl⟩ := mem_gRg hx
      have hqj : ¬ q = j := fun e => by subst e; rw [hat] at hxr; cases hxr
      have := gRg_set (d := d) (q := q) (withOw (gRg d q) r.ow) hj
      rw [if_neg hqj] at this
      rw [← this]
      exact gRg_mem (by rw [List.length_set]; exact hj)
end Go.Proofs.Ytglhembdlipccaa
