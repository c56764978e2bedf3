/- The memory of a region that appends twice to a row of its own and makes a variable of a struct of two cells, in whatever order (operations 0, 3, 5; 11, 12). No condition. -/
import Derived.Test.YtbhhkaaidhapbaaFacts5
import Derived.Test.YtbhhkaaidhapbaaAppl
import Derived.OneCell
namespace Go.Proofs.Ytbhhkaaidhapbaa
open Go.ChangeShapes Go.WideShapes Go.ChangeAt Go.RowKit Go.Sort
set_option linter.unusedSimpArgs false
set_option linter.unusedVariables false
structure QM (W : World) (e tv : TypeId) (k n m : Nat) (l1 l2 : List Value) (s : Value) (V : Array Bool) (x : Nat → Value) (w' : World) : Prop where
  below : Below W.heap.size W w'
  r0 : V.getD 0 true = true → V.getD 3 true = false → w'.ownsRow W.heap.size e k (x 0) 0 []
  r3 : V.getD 3 true = true → V.getD 5 true = false → w'.ownsRow W.heap.size e k (x 3) n l1
  r5 : V.getD 5 true = true → w'.ownsRow W.heap.size e k (x 5) (n + m) (l1 ++ l2)
  b11 : V.getD 11 true = true → ∃ b u0 u1, x 11 = .pointer (some ⟨b, 0, none⟩) ∧ Blok w' b tv #[u0, u1] ∧ W.heap.size ≤ b ∧ (V.getD 12 true = true → u0 = x 5 ∧ u1 = s)
theorem not_yet {md : Region.Mode} {ops : Array Oper} {V : Array Bool} {i j : Nat} {o : Oper} (hcl : Closed md ops V) (hun : V.getD i true = false) (ho : ops[j]? = some o) (e : Edge) (he : e ∈ o.after) (hb : Region.binds md e = true) (hon : e.on = i) : V.getD j true = false := by
  cases h : V.getD j true with
  | false => rfl
  | true =>
    have := getD_ft (hcl j o ho h e he hb)
    rw [hon, hun] at this
    cases this
theorem wpOp_skips {P : Program} {ops : Array Oper} {Q : Exit → Act → World → Prop} {i : Nat} {o : Oper} {K : Act → World → Prop} {a : Act} {w w' : World} (ho : ops[i]? = some o) (hg : o.guard = none) (hr : (execOp a.eval o).run P w = .ok .skip w') (hK : K (a.put o.dst undef) w') : wpOp P ops Q i K a w := by
  refine wpOp_of ho ?_
  rw [if_pos (by simp [Region.wanted, hg])]
  unfold Oper.wp
  rw [hr]
  exact hK
theorem getD_self (V : Array Bool) (i : Nat) : (V.setIfInBounds i true).getD i true = true := by
  by_cases hs : i < V.size
  · simp [hs]
  · simp [Array.getD, hs]
section
variable {W : World} {e tv : TypeId} {k n m : Nat} {l1 l2 : List Value} {s : Value} {V : Array Bool} {x : Nat → Value} {w' : World}
theorem noT {b : Bool} {p : Prop} (h : b = false) : b = true → p := fun k => by rw [h] at k; cases k
theorem noF {b : Bool} {p : Prop} (h : b = true) : b = false → p := fun k => by rw [h] at k; cases k
theorem QM.start (W0 : World) (h : Below W.heap.size W W0) (hV : ∀ i, i < 13 → V.getD i true = false) : QM W e tv k n m l1 l2 s V x W0 :=
  ⟨h, noT (hV 0 (by decide)), noT (hV 3 (by decide)), noT (hV 5 (by decide)), noT (hV 11 (by decide))⟩
theorem QM.other (h : QM W e tv k n m l1 l2 s V x w') (i : Nat) (v : Value) (a0 : i ≠ 0) (a3 : i ≠ 3) (a5 : i ≠ 5) (a11 : i ≠ 11) (a12 : i ≠ 12) : QM W e tv k n m l1 l2 s (V.setIfInBounds i true) (upd x i v) w' := by
  obtain ⟨hb, h0, h3, h5, h11⟩ := h
  rw [← getD_set_ne true a0, ← getD_set_ne true a3] at h0
  rw [← getD_set_ne true a3, ← getD_set_ne true a5] at h3
  rw [← getD_set_ne true a5] at h5
  rw [← getD_set_ne true a11, ← getD_set_ne true a12] at h11
  refine ⟨hb, ?_, ?_, ?_, ?_⟩
  · rw [upd_ne x v a0.symm]; exact h0
  · rw [upd_ne x v a3.symm]; exact h3
  · rw [upd_ne x v a5.symm]; exact h5
  · rw [upd_ne x v a11.symm, upd_ne x v a5.symm]; exact h11
theorem QM.made0 (h : QM W e tv k n m l1 l2 s V x w') (b3 : V.getD 3 true = false) (b5 : V.getD 5 true = false) (b12 : V.getD 12 true = false) :
    QM W e tv k n m l1 l2 s (V.setIfInBounds 0 true) (upd x 0 (.slice (some ⟨w'.heap.size, 0, none⟩) 0 0)) (w'.alloc (.cells #[] e)) := by
  have hs := h.below.size
  refine ⟨h.below.alloc hs _, ?_, ?_, ?_, ?_⟩
  · intro _ _; rw [upd_same]; exact World.ownsRow_made w' #[] 0 hs (by simp) (by simp)
  · rw [getD_set_ne true (by decide)]; exact noT b3
  · rw [getD_set_ne true (by decide)]; exact noT b5
  · rw [getD_set_ne true (show 0 ≠ 11 by decide), getD_set_ne true (show 0 ≠ 12 by decide), upd_ne x _ (show 11 ≠ 0 by decide), b12]
    intro k1
    obtain ⟨b, u0, u1, e1, hb, hl, _⟩ := h.b11 k1
    exact ⟨b, u0, u1, e1, hb.alloc _, hl, fun k => by cases k⟩
theorem QM.app3 (h : QM W e tv k n m l1 l2 s V x w') (hne : e ≠ tv) (b0 : V.getD 0 true = true) (b3 : V.getD 3 true = false) (b5 : V.getD 5 true = false) (b12 : V.getD 12 true = false)
    {v' : Value} {w2 : World} (ho : w2.ownsRow W.heap.size e k v' n l1) (hg : w'.grownBy w2 (x 0).ownBlock) : QM W e tv k n m l1 l2 s (V.setIfInBounds 3 true) (upd x 3 v') w2 := by
  have hs := h.below.size
  have hr := h.r0 b0 b3
  refine ⟨h.below.grown hg hs (fun k hk => (hr.lt k hk).1), ?_, ?_, ?_, ?_⟩
  · rw [getD_self]; intro _ k; cases k
  · intro _ _; rw [upd_same]; exact ho
  · rw [getD_set_ne true (by decide)]; exact noT b5
  · rw [getD_set_ne true (show 3 ≠ 11 by decide), getD_set_ne true (show 3 ≠ 12 by decide), upd_ne x _ (show 11 ≠ 3 by decide), b12]
    intro k1
    obtain ⟨b, u0, u1, e1, hb, hl, _⟩ := h.b11 k1
    exact ⟨b, u0, u1, e1, hb.grown hg (fun k => Blok.ne_own hr hb hne k.symm), hl, fun k => by cases k⟩
theorem QM.app5 (h : QM W e tv k n m l1 l2 s V x w') (hne : e ≠ tv) (b3 : V.getD 3 true = true) (b5 : V.getD 5 true = false) (b12 : V.getD 12 true = false)
    {v' : Value} {w2 : World} (ho : w2.ownsRow W.heap.size e k v' (n + m) (l1 ++ l2)) (hg : w'.grownBy w2 (x 3).ownBlock) : QM W e tv k n m l1 l2 s (V.setIfInBounds 5 true) (upd x 5 v') w2 := by
  have hs := h.below.size
  have hr := h.r3 b3 b5
  refine ⟨h.below.grown hg hs (fun k hk => (hr.lt k hk).1), ?_, ?_, ?_, ?_⟩
  · rw [getD_set_ne true (by decide), getD_set_ne true (by decide), b3]; intro _ k; cases k
  · rw [getD_self]; intro _ k; cases k
  · intro _; rw [upd_same]; exact ho
  · rw [getD_set_ne true (show 5 ≠ 11 by decide), getD_set_ne true (show 5 ≠ 12 by decide), upd_ne x _ (show 11 ≠ 5 by decide), b12]
    intro k1
    obtain ⟨b, u0, u1, e1, hb, hl, _⟩ := h.b11 k1
    exact ⟨b, u0, u1, e1, hb.grown hg (fun k => Blok.ne_own hr hb hne k.symm), hl, fun k => by cases k⟩
theorem QM.made11 (h : QM W e tv k n m l1 l2 s V x w') (z0 z1 : Value) (b12 : V.getD 12 true = false) :
    QM W e tv k n m l1 l2 s (V.setIfInBounds 11 true) (upd x 11 (.pointer (some ⟨w'.heap.size, 0, none⟩))) (w'.alloc (.cells #[z0, z1] tv)) := by
  have hs := h.below.size
  refine ⟨h.below.alloc hs _, ?_, ?_, ?_, ?_⟩
  · rw [getD_set_ne true (show 11 ≠ 0 by decide), getD_set_ne true (show 11 ≠ 3 by decide), upd_ne x _ (show 0 ≠ 11 by decide)]; exact fun k1 k2 => (h.r0 k1 k2).alloc _
  · rw [getD_set_ne true (show 11 ≠ 3 by decide), getD_set_ne true (show 11 ≠ 5 by decide), upd_ne x _ (show 3 ≠ 11 by decide)]; exact fun k1 k2 => (h.r3 k1 k2).alloc _
  · rw [getD_set_ne true (show 11 ≠ 5 by decide), upd_ne x _ (show 5 ≠ 11 by decide)]; exact fun k1 => (h.r5 k1).alloc _
  · rw [getD_set_ne true (show 11 ≠ 12 by decide), upd_same, b12]
    exact fun _ => ⟨_, z0, z1, rfl, Blok.new w' tv #[z0, z1], hs, fun k => by cases k⟩
theorem QM.store12 (h : QM W e tv k n m l1 l2 s V x w') (hne : e ≠ tv) (b5 : V.getD 5 true = true) (b3 : V.getD 3 true = true) (v : Value) {b : Nat} {u0 u1 : Value} (e1 : x 11 = .pointer (some ⟨b, 0, none⟩)) (hb : Blok w' b tv #[u0, u1]) (hl : W.heap.size ≤ b) :
    QM W e tv k n m l1 l2 s (V.setIfInBounds 12 true) (upd x 12 v) ((w'.setCell ⟨b, 0, none⟩ (x 5)).setCell ⟨b, 1, none⟩ s) := by
  have h5 := h.r5 b5
  have hn : (x 5).ownBlock ≠ some b := fun k => Blok.ne_own h5 hb hne k
  refine ⟨(h.below.setCell hl _).setCell hl _, ?_, ?_, ?_, ?_⟩
  · rw [getD_set_ne true (show 12 ≠ 3 by decide), b3]; intro _ k; cases k
  · rw [getD_set_ne true (show 12 ≠ 5 by decide), b5]; intro _ k; cases k
  · rw [upd_ne x _ (show 5 ≠ 12 by decide)]
    exact fun _ => ownsRow_setCell_other (ownsRow_setCell_other h5 (a := ⟨b, 0, none⟩) hn _) (a := ⟨b, 1, none⟩) hn _
  · rw [upd_ne x _ (show 11 ≠ 12 by decide), upd_ne x _ (show 5 ≠ 12 by decide)]
    refine fun _ => ⟨b, x 5, s, e1, ?_, hl, fun _ => ⟨rfl, rfl⟩⟩
    exact (hb.set_ 0 (x 5)).set_ 1 s
end
end Go.Proofs.Ytbhhkaaidhapbaa
