/- The memory of the region in which the document's heap takes one in: a chain of rows of its own, each fact only until the next has come up. No condition. -/
import Derived.Test.YtpmibpclkfidkaaRef14b
import Derived.Test.YtpmibpclkfidkaaFacts5
namespace Go.Proofs.Ytpmibpclkfidkaa
open Go.ChangeShapes Go.WideShapes Go.ChangeAt Go.RowKit Go.Sort
set_option linter.unusedSimpArgs false
set_option linter.unusedVariables false
structure PM (W : World) (e : TypeId) (q n : Nat) (u1 u2 : Value) (l1 l3 : List Value) (Fin : World → Prop) (V : Array Bool) (x : Nat → Value) (w' : World) : Prop where
  below : V.getD 21 true = false → Below W.heap.size W w'
  r1 : V.getD 1 true = true → V.getD 8 true = false → w'.ownsRow W.heap.size e 2 (x 1) 0 []
  r8 : V.getD 8 true = true → V.getD 11 true = false → w'.ownsRow W.heap.size e 2 (x 8) q l1
  r10 : V.getD 10 true = true → V.getD 11 true = false → ∃ g, x 10 = .slice (some ⟨g, 0, none⟩) 1 1 ∧ Blok w' g e #[u1, u2] ∧ W.heap.size ≤ g ∧ (V.getD 1 true = true → V.getD 8 true = false → (x 1).ownBlock ≠ some g) ∧ (V.getD 8 true = true → (x 8).ownBlock ≠ some g)
  r11 : V.getD 11 true = true → V.getD 18 true = false → w'.ownsRow W.heap.size e 2 (x 11) (q + 1) (l1 ++ [u1, u2])
  r18 : V.getD 18 true = true → V.getD 21 true = false → w'.ownsRow W.heap.size e 2 (x 18) (n + 1) (l1 ++ [u1, u2] ++ l3)
  fin : V.getD 21 true = true → Fin w'
theorem getD_set_self (V : Array Bool) (i : Nat) : (V.setIfInBounds i true).getD i true = true := by
  by_cases hs : i < V.size
  · simp [hs]
  · simp [Array.getD, hs]
section
variable {W : World} {e : TypeId} {q n : Nat} {u1 u2 : Value} {l1 l3 : List Value} {Fin : World → Prop} {V : Array Bool} {x : Nat → Value} {w' : World}
theorem PM.start (W0 : World) (h : Below W.heap.size W W0) (hV : ∀ i, i < 22 → V.getD i true = false) : PM W e q n u1 u2 l1 l3 Fin V x W0 := by
  have k := fun i hi => hV i hi
  refine ⟨fun _ => h, ?_, ?_, ?_, ?_, ?_, ?_⟩
  · intro h; rw [k 1 (by decide)] at h; cases h
  · intro h; rw [k 8 (by decide)] at h; cases h
  · intro h; rw [k 10 (by decide)] at h; cases h
  · intro h; rw [k 11 (by decide)] at h; cases h
  · intro h; rw [k 18 (by decide)] at h; cases h
  · intro h; rw [k 21 (by decide)] at h; cases h
theorem PM.other (h : PM W e q n u1 u2 l1 l3 Fin V x w') (i : Nat) (v : Value) (a1 : i ≠ 1) (a8 : i ≠ 8) (a10 : i ≠ 10) (a11 : i ≠ 11) (a18 : i ≠ 18) (a21 : i ≠ 21) : PM W e q n u1 u2 l1 l3 Fin (V.setIfInBounds i true) (upd x i v) w' := by
  obtain ⟨hb, h1, h8, h10, h11, h18, hf⟩ := h
  rw [← getD_set_ne true a1, ← getD_set_ne true a8] at h1
  rw [← getD_set_ne true a8, ← getD_set_ne true a11] at h8
  rw [← getD_set_ne true a10, ← getD_set_ne true a11, ← getD_set_ne true a1, ← getD_set_ne true a8] at h10
  rw [← getD_set_ne true a11, ← getD_set_ne true a18] at h11
  rw [← getD_set_ne true a18, ← getD_set_ne true a21] at h18
  rw [← getD_set_ne true a21] at hb hf
  refine ⟨hb, ?_, ?_, ?_, ?_, ?_, hf⟩
  · rw [upd_ne x v a1.symm]; exact h1
  · rw [upd_ne x v a8.symm]; exact h8
  · rw [upd_ne x v a10.symm, upd_ne x v a1.symm, upd_ne x v a8.symm]; exact h10
  · rw [upd_ne x v a11.symm]; exact h11
  · rw [upd_ne x v a18.symm]; exact h18
theorem no_ {b : Bool} {p : Prop} (h : b = false) : b = true → p := fun k => by rw [h] at k; cases k
theorem PM.made1 (h : PM W e q n u1 u2 l1 l3 Fin V x w') (b8 : V.getD 8 true = false) (b11 : V.getD 11 true = false) (b18 : V.getD 18 true = false) (b21 : V.getD 21 true = false) :
    PM W e q n u1 u2 l1 l3 Fin (V.setIfInBounds 1 true) (upd x 1 (.slice (some ⟨w'.heap.size, 0, none⟩) 0 0)) (w'.alloc (.cells #[] e)) := by
  have hs := (h.below b21).size
  refine ⟨fun _ => (h.below b21).alloc hs _, ?_, ?_, ?_, ?_, ?_, ?_⟩
  · intro _ _; rw [upd_same]; exact World.ownsRow_made w' #[] 0 hs (by simp) (by simp)
  · rw [getD_set_ne true (by decide)]; exact no_ b8
  · rw [getD_set_ne true (show 1 ≠ 10 by decide), getD_set_ne true (show 1 ≠ 11 by decide), getD_set_ne true (show 1 ≠ 8 by decide)]
    intro k1 k2
    obtain ⟨g, e1, hg, hl, _, _⟩ := h.r10 k1 k2
    rw [upd_ne x _ (show 10 ≠ 1 by decide), upd_same]
    refine ⟨g, e1, hg.alloc _, hl, fun _ _ k => ?_, no_ b8⟩
    have := hg.lt
    simp [Value.ownBlock] at k
    omega
  · rw [getD_set_ne true (by decide)]; exact no_ b11
  · rw [getD_set_ne true (by decide)]; exact no_ b18
  · rw [getD_set_ne true (by decide)]; exact no_ b21
theorem PM.made10 (h : PM W e q n u1 u2 l1 l3 Fin V x w') (b11 : V.getD 11 true = false) (b18 : V.getD 18 true = false) (b21 : V.getD 21 true = false) :
    PM W e q n u1 u2 l1 l3 Fin (V.setIfInBounds 10 true) (upd x 10 (.slice (some ⟨w'.heap.size, 0, none⟩) 1 1)) (w'.alloc (.cells #[u1, u2] e)) := by
  have hs := (h.below b21).size
  refine ⟨fun _ => (h.below b21).alloc hs _, ?_, ?_, ?_, ?_, ?_, ?_⟩
  · rw [getD_set_ne true (show 10 ≠ 1 by decide), getD_set_ne true (show 10 ≠ 8 by decide), upd_ne x _ (show 1 ≠ 10 by decide)]
    exact fun k1 k2 => (h.r1 k1 k2).alloc _
  · rw [getD_set_ne true (show 10 ≠ 8 by decide), getD_set_ne true (show 10 ≠ 11 by decide), upd_ne x _ (show 8 ≠ 10 by decide)]
    exact fun k1 k2 => (h.r8 k1 k2).alloc _
  · rw [getD_set_ne true (show 10 ≠ 11 by decide), getD_set_ne true (show 10 ≠ 8 by decide), getD_set_ne true (show 10 ≠ 1 by decide), upd_ne x _ (show 1 ≠ 10 by decide), upd_ne x _ (show 8 ≠ 10 by decide), upd_same]
    intro _ _
    refine ⟨_, rfl, Blok.new w' e #[u1, u2], hs, fun k1 k2 k => ?_, fun k1 k => ?_⟩
    · have := ((h.r1 k1 k2).lt _ k).2; omega
    · have := ((h.r8 k1 b11).lt _ k).2; omega
  · rw [getD_set_ne true (by decide)]; exact no_ b11
  · rw [getD_set_ne true (by decide)]; exact no_ b18
  · rw [getD_set_ne true (by decide)]; exact no_ b21
theorem own_low {base : Nat} {size m : Nat} {v : Value} {xs : List Value} (h : w'.ownsRow base e size v m xs) : ∀ k, v.ownBlock = some k → base ≤ k := fun k hk => (h.lt k hk).1
theorem PM.app8 (h : PM W e q n u1 u2 l1 l3 Fin V x w') (b1 : V.getD 1 true = true) (b8 : V.getD 8 true = false) (b11 : V.getD 11 true = false) (b18 : V.getD 18 true = false) (b21 : V.getD 21 true = false)
    {v' : Value} {w2 : World} (ho : w2.ownsRow W.heap.size e 2 v' q l1) (hg : w'.grownBy w2 (x 1).ownBlock) (hv : v'.ownBlock = (x 1).ownBlock ∨ v'.ownBlock = some w'.heap.size) :
    PM W e q n u1 u2 l1 l3 Fin (V.setIfInBounds 8 true) (upd x 8 v') w2 := by
  have hs := (h.below b21).size
  have hr := h.r1 b1 b8
  refine ⟨fun _ => (h.below b21).grown hg hs (own_low hr), ?_, ?_, ?_, ?_, ?_, ?_⟩
  · intro _ k; rw [getD_set_self] at k; cases k
  · intro _ _; rw [upd_same]; exact ho
  · rw [getD_set_ne true (show 8 ≠ 10 by decide), getD_set_ne true (show 8 ≠ 11 by decide), getD_set_self, upd_ne x _ (show 10 ≠ 8 by decide), upd_same]
    intro k1 k2
    obtain ⟨g, e1, hgb, hl, hn1, _⟩ := h.r10 k1 k2
    refine ⟨g, e1, hgb.grown hg (fun k => hn1 b1 b8 k.symm), hl, (fun _ k => by cases k), fun _ k => ?_⟩
    rcases hv with hv | hv
    · rw [hv] at k; exact hn1 b1 b8 k
    · rw [hv] at k; have := hgb.lt; injection k with k; omega
  · rw [getD_set_ne true (by decide)]; exact no_ b11
  · rw [getD_set_ne true (by decide)]; exact no_ b18
  · rw [getD_set_ne true (by decide)]; exact no_ b21
theorem PM.app11 (h : PM W e q n u1 u2 l1 l3 Fin V x w') (b8 : V.getD 8 true = true) (b11 : V.getD 11 true = false) (b18 : V.getD 18 true = false) (b21 : V.getD 21 true = false) (b1 : V.getD 1 true = true)
    {v' : Value} {w2 : World} (ho : w2.ownsRow W.heap.size e 2 v' (q + 1) (l1 ++ [u1, u2])) (hg : w'.grownBy w2 (x 8).ownBlock) :
    PM W e q n u1 u2 l1 l3 Fin (V.setIfInBounds 11 true) (upd x 11 v') w2 := by
  have hs := (h.below b21).size
  have hr := h.r8 b8 b11
  refine ⟨fun _ => (h.below b21).grown hg hs (own_low hr), ?_, ?_, ?_, ?_, ?_, ?_⟩
  · rw [getD_set_ne true (show 11 ≠ 8 by decide), b8]; intro _ k; cases k
  · rw [getD_set_self]; intro _ k; cases k
  · rw [getD_set_self]; intro _ k; cases k
  · intro _ _; rw [upd_same]; exact ho
  · rw [getD_set_ne true (by decide)]; exact no_ b18
  · rw [getD_set_ne true (by decide)]; exact no_ b21
theorem PM.app18 (h : PM W e q n u1 u2 l1 l3 Fin V x w') (b11 : V.getD 11 true = true) (b18 : V.getD 18 true = false) (b21 : V.getD 21 true = false) (b8 : V.getD 8 true = true)
    {v' : Value} {w2 : World} (ho : w2.ownsRow W.heap.size e 2 v' (n + 1) (l1 ++ [u1, u2] ++ l3)) (hg : w'.grownBy w2 (x 11).ownBlock) :
    PM W e q n u1 u2 l1 l3 Fin (V.setIfInBounds 18 true) (upd x 18 v') w2 := by
  have hs := (h.below b21).size
  have hr := h.r11 b11 b18
  refine ⟨fun _ => (h.below b21).grown hg hs (own_low hr), ?_, ?_, ?_, ?_, ?_, ?_⟩
  · rw [getD_set_ne true (show 18 ≠ 8 by decide), b8]; intro _ k; cases k
  · rw [getD_set_ne true (show 18 ≠ 11 by decide), b11]; intro _ k; cases k
  · rw [getD_set_ne true (show 18 ≠ 11 by decide), b11]; intro _ k; cases k
  · rw [getD_set_self]; intro _ k; cases k
  · intro _ _; rw [upd_same]; exact ho
  · rw [getD_set_ne true (by decide)]; exact no_ b21
theorem PM.store21 (b8 : V.getD 8 true = true) (b11 : V.getD 11 true = true) (b18 : V.getD 18 true = true) (v : Value) {w2 : World} (hf : Fin w2) :
    PM W e q n u1 u2 l1 l3 Fin (V.setIfInBounds 21 true) (upd x 21 v) w2 := by
  refine ⟨?_, ?_, ?_, ?_, ?_, ?_, fun _ => hf⟩
  · rw [getD_set_self]; intro k; cases k
  · rw [getD_set_ne true (show 21 ≠ 8 by decide), b8]; intro _ k; cases k
  · rw [getD_set_ne true (show 21 ≠ 11 by decide), b11]; intro _ k; cases k
  · rw [getD_set_ne true (show 21 ≠ 11 by decide), b11]; intro _ k; cases k
  · rw [getD_set_ne true (show 21 ≠ 18 by decide), b18]; intro _ k; cases k
  · rw [getD_set_self]; intro _ k; cases k
end
theorem not_yet {md : Region.Mode} {ops : Array Oper} {V : Array Bool} {i j : Nat} {o : Oper} (hcl : Closed md ops V) (hun : V.getD i true = false) (ho : ops[j]? = some o) (e : Edge) (he : e ∈ o.after) (hb : Region.binds md e = true) (hon : e.on = i) : V.getD j true = false := by
  cases h : V.getD j true with
  | false => rfl
  | true =>
    have := getD_ft (hcl j o ho h e he hb)
    rw [hon, hun] at this
    cases this
theorem wpOp_skips {P : Program} {ops : Array Oper} {Q : Exit → Act → World → Prop} {i : Nat} {o : Oper} {K : Act → World → Prop} {a : Act} {w w' : World} (ho : ops[i]? = some o) (hg : o.guard = none) (hr : (execOp a.eval o).run P w = .ok .skip w') (hK : K (a.put o.dst undef) w') : wpOp P ops Q i K a w := by
  refine wpOp_of ho ?_
  rw [if_pos (by simp [Region.wanted, hg])]
  unfold Oper.wp
  rw [hr]
  exact hK
/-- The heap behind the store. -/
theorem RefB.stored {W w' : World} {B gb : Nat} {A : Option Addr} {n c : Nat} {s s2 : List (Int × Int)} (h : RefB W B gb A n c s) (hb : Below W.heap.size W w') (hBW : B ≤ W.heap.size) {v : Value} {m : Nat} (hm : 0 < m) (hl : s2.length = m)
    (ho : w'.ownsRow W.heap.size 30 2 v m (flat2 s2)) (hord : Hp.sorted s2) : ∃ g' c', v = .slice (some ⟨g', 0, none⟩) m c' ∧ W.heap.size ≤ g' ∧ RefB (w'.setCell ⟨gb, 0, none⟩ v) B gb (some ⟨g', 0, none⟩) m c' s2 ∧ Kept (fun k => k = gb) W (w'.setCell ⟨gb, 0, none⟩ v) := by
  have hgl := h.head.lt
  have hg := own_low ho
  have hhd := h.head.below hb hgl
  have hL := (ho.kept (grown_set w' 0 v (g := gb)) (.inr fun e => by have := hg gb e; omega))
  rcases ho.2 with ⟨_, h0⟩ | ⟨g', cap, cur, rfl, hbb, hgg, hnc, hcm, _, _⟩
  · omega
  · refine ⟨g', cap, rfl, hbb, ?_, ?_⟩
    · refine ⟨one_setCell hhd, Lst.of_own hL, hl, hnc, hcm, h.gbB, ?_, ?_, hord⟩
      · intro ad e; injection e with e; subst e; show B ≤ g'; omega
      · intro ad e; injection e with e; subst e; show g' ≠ gb; omega
    · exact (Kept.of_below (S := fun k => k = gb) hb).set (g := gb) (fun _ => rfl) _ _
end Go.Proofs.Ytpmibpclkfidkaa
