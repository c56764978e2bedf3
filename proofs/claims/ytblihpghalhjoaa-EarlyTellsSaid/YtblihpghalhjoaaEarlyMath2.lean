/- The search takes each node up once: what is popped rises, what was taken up stays as it is. Plain facts. -/
import Derived.Test.YtblihpghalhjoaaEarlyMath
namespace Go.Proofs.Ytblihpghalhjoaa
open Go.ChangeShapes Go.WideShapes Go.ChangeAt Go.RowKit Go.Sort
set_option linter.unusedSimpArgs false
set_option linter.unusedVariables false
/-- X: the nodes that were taken up; lo: the time that was popped last. -/
structure Cnt (T : Int → Option Int) (H : List (Int × Int)) (X : List Int) (lo : Int) : Prop where
  nd : H.Nodup
  ge : ∀ n t, (n, t) ∈ H → lo ≤ t
  fin : ∀ n ∈ X, ∃ v, T n = some v ∧ v ≤ lo ∧ (n, v) ∉ H
  xnd : X.Nodup
theorem Cnt.first (q now : Int) : Cnt (oneT q now) [(q, now)] [] now := ⟨by simp, fun n t h => by simp at h; omega, fun n h => by simp at h, by simp⟩
/-- The least is popped: none that is left is earlier. -/
theorem Cnt.pop {T : Int → Option Int} {H H' : List (Int × Int)} {X : List Int} {lo n t : Int} (h : Cnt T H X lo) (hH : H.Perm ((n, t) :: H')) (hl : ∀ m s, (m, s) ∈ H' → t ≤ s) : Cnt T H' X t ∧ (n, t) ∉ H' ∧ (T n = some t → n ∉ X) := by
  have hnd := (hH.nodup_iff).1 h.nd
  obtain ⟨h1, h2⟩ := List.nodup_cons.1 hnd
  have hlo := h.ge n t (hH.mem_iff.2 (List.mem_cons_self ..))
  refine ⟨⟨h2, hl, fun m hm => ?_, h.xnd⟩, h1, fun hT hX => ?_⟩
  · obtain ⟨v, hv, hle, hno⟩ := h.fin m hm
    exact ⟨v, hv, by omega, fun hin => hno (hH.mem_iff.2 (List.mem_cons_of_mem _ hin))⟩
  · obtain ⟨v, hv, _, hno⟩ := h.fin n hX
    rw [hT] at hv
    injection hv with hv
    subst hv
    exact hno (hH.mem_iff.2 (List.mem_cons_self ..))
/-- One is laid in, no earlier than what was popped last, and earlier than is told of its node. -/
theorem Cnt.push {T : Int → Option Int} {H H' : List (Int × Int)} {X : List Int} {lo m a : Int} (h : Cnt T H X lo) (hw : ∀ n t, (n, t) ∈ H → ∃ u, T n = some u ∧ u ≤ t) (ha : lo ≤ a) (hl : lessT T m a = true) (hH : H'.Perm ((m, a) :: H)) : Cnt (setT T m a) H' X lo ∧ m ∉ X := by
  have hmX : m ∉ X := fun hX => by
    obtain ⟨v, hv, hle, _⟩ := h.fin m hX
    unfold lessT at hl
    rw [hv] at hl
    have := of_decide_eq_true hl
    omega
  have hnew : (m, a) ∉ H := fun hin => by
    obtain ⟨u, hu, hle⟩ := hw m a hin
    unfold lessT at hl
    rw [hu] at hl
    have := of_decide_eq_true hl
    omega
  refine ⟨⟨(hH.nodup_iff).2 (List.nodup_cons.2 ⟨hnew, h.nd⟩), fun n t hin => ?_, fun n hn => ?_, h.xnd⟩, hmX⟩
  · rcases List.mem_cons.1 (hH.mem_iff.1 hin) with h1 | h1
    · injection h1 with _ e2
      omega
    · exact h.ge n t h1
  · obtain ⟨v, hv, hle, hno⟩ := h.fin n hn
    have hne : n ≠ m := fun e => hmX (e ▸ hn)
    refine ⟨v, by rw [setT_ne _ _ hne]; exact hv, hle, fun hin => ?_⟩
    rcases List.mem_cons.1 (hH.mem_iff.1 hin) with h1 | h1
    · injection h1 with e1 _
      exact hne e1
    · exact hno h1
/-- A node is taken up. -/
theorem Cnt.take {T : Int → Option Int} {H : List (Int × Int)} {X : List Int} {n t : Int} (h : Cnt T H X t) (hT : T n = some t) (hno : (n, t) ∉ H) (hX : n ∉ X) : Cnt T H (n :: X) t := by
  refine ⟨h.nd, h.ge, fun m hm => ?_, List.nodup_cons.2 ⟨hX, h.xnd⟩⟩
  rcases List.mem_cons.1 hm with rfl | h1
  · exact ⟨t, hT, Int.le_refl _, hno⟩
  · exact h.fin m h1
/-- The edges that begin at none of these nodes. -/
def leftE (l : List Ed) (X : List Int) : Nat := (l.filter fun e => !X.contains e.fr).length
theorem leftE_le (l : List Ed) (X : List Int) : leftE l X ≤ l.length := List.length_filter_le _ _
theorem leftE_take (l : List Ed) {X : List Int} {n : Int} (hX : n ∉ X) : leftE l (n :: X) + (l.filter fun e => e.fr == n).length = leftE l X := by
  unfold leftE
  induction l with
  | nil => rfl
  | cons e r ih =>
    by_cases h1 : e.fr = n
    · have h2 : X.contains e.fr = false := by rw [h1, Bool.eq_false_iff]; intro h; exact hX (List.contains_iff_mem.1 h)
      have h3 : (n :: X).contains e.fr = true := by rw [List.contains_iff_mem, h1]; exact List.mem_cons_self ..
      rw [List.filter_cons_of_neg (by simp only [h3]; decide), List.filter_cons_of_pos (by simpa using h1), List.filter_cons_of_pos (by simp only [h2]; decide)]
      simp only [List.length_cons]
      omega
    · have h3 : (n :: X).contains e.fr = X.contains e.fr := by
        rw [Bool.eq_iff_iff, List.contains_iff_mem, List.contains_iff_mem, List.mem_cons]
        exact ⟨fun h => h.resolve_left h1, .inr⟩
      rw [List.filter_cons_of_neg (p := fun e : Ed => e.fr == n) (by simpa using h1)]
      cases h4 : X.contains e.fr with
      | true =>
        rw [List.filter_cons_of_neg (by simp only [h3, h4]; decide), List.filter_cons_of_neg (by simp only [h4]; decide)]
        exact ih
      | false =>
        rw [List.filter_cons_of_pos (by simp only [h3, h4]; decide), List.filter_cons_of_pos (by simp only [h4]; decide)]
        simp only [List.length_cons]
        omega
end Go.Proofs.Ytblihpghalhjoaa
