/- Several texts of mine in one: Facts3, Facts4. No condition. -/
import Derived.Test.YtbhhkaaidhapbaaFacts2
import Derived.Test.YtbhhkaaidhapbaaMem
import Derived.Test.YtbhhkaaidhapbaaQTail
namespace Go.Proofs.Ytbhhkaaidhapbaa
open Go.Sort Go.RowKit
set_option linter.unusedSimpArgs false
set_option linter.unusedVariables false
theorem getD_ft {V : Array Bool} {i : Nat} (h : V.getD i false = true) : V.getD i true = true := by
  unfold Array.getD at *
  split <;> simp_all
theorem getD_mono {V : Array Bool} {i j : Nat} (h : V.getD j true = true) : (V.setIfInBounds i true).getD j true = true := by
  by_cases e : i = j
  · subst e
    by_cases hs : i < V.size
    · simp [hs]
    · simp [Array.getD, hs]
  · rw [getD_set_ne true e]; exact h
theorem grown_sets {b : Nat} : ∀ (vs : List Value) (o : Nat) (w : World), w.grownBy (w.setCells b o vs) (some b)
  | [], _, _ => ⟨rfl, rfl, rfl, Nat.le_refl _, fun _ _ _ => rfl⟩
  | v :: r, o, w => by
    rw [World.setCells]
    exact grown_trans (grown_set _ _ _) (grown_sets r (o + 1) _)
def tpl (v : Value) (i : Nat) : Value := match v with
  | .tuple vs => vs.getD i undef
  | _ => undef
theorem gen_frame {P : Program} {c : Code} {Q : Exit → Act → World → Prop} {a : Act} {w : World} (h : ∀ a0, a0 = a → Code.wp P c Q a0 w) : Code.wp P c Q a w := h a rfl
theorem size_putAll {x : Nat → Value} : ∀ (ds : List (Option Tmp)) (a : Act) (k : Nat), (putAll a ds x k).tmps.size = a.tmps.size
  | [], _, _ => rfl
  | d :: ds, a, k => by rw [putAll, size_putAll ds, put_size]
theorem eval_out {x : Nat → Value} {e : Tmp} : ∀ (ds : List (Option Tmp)) (a : Act) (k : Nat), ds.contains (some e) = false → (putAll a ds x k).eval (.tmp e) = a.eval (.tmp e)
  | [], _, _, _ => rfl
  | d :: ds, a, k, h => by
    simp only [List.contains_cons, Bool.or_eq_false_iff] at h
    rw [putAll, eval_out ds _ (k + 1) h.2]
    have hne : d ≠ some e := fun he => by rw [he] at h; simp at h
    have := put_tmps a d (x k) e hne
    simp only [Act.eval, Array.getD_eq_getD_getElem?, this]
theorem eval_in {x : Nat → Value} {e : Tmp} : ∀ (ds : List (Option Tmp)) (a : Act) (k i : Nat), nodupB ds = true → ds[i]? = some (some e) → e < a.tmps.size → (putAll a ds x k).eval (.tmp e) = x (k + i)
  | [], _, _, _, _, h, _ => by simp at h
  | d :: ds, a, k, 0, hn, h, hs => by
    have hd : d = some e := by simpa using h
    subst hd
    simp only [nodupB, Bool.and_eq_true, Bool.or_eq_true] at hn
    have hc : ds.contains (some e) = false := by
      rcases hn.1 with h1 | h1
      · cases h1
      · simpa using h1
    rw [putAll, eval_out ds _ (k + 1) hc]
    simp [Act.eval, Act.put, Array.getD_eq_getD_getElem?, hs]
  | d :: ds, a, k, i + 1, hn, h, hs => by
    simp only [nodupB, Bool.and_eq_true] at hn
    rw [putAll, eval_in ds _ (k + 1) i hn.2 (by simpa using h) (by rw [put_size]; exact hs), show k + 1 + i = k + (i + 1) by omega]
end Go.Proofs.Ytbhhkaaidhapbaa
namespace Go.Proofs.Ytbhhkaaidhapbaa
open Go.Sort Go.RowKit
set_option linter.unusedSimpArgs false
set_option linter.unusedVariables false
section
variable {P : Program} {ops : Array Oper}
theorem wpOp_runs {Q : Exit → Act → World → Prop} {i : Nat} {o : Oper} {K : Act → World → Prop} {a : Act} {w w' : World} {v : Value} (ho : ops[i]? = some o) (hg : o.guard = none) (hr : (execOp a.eval o).run P w = .ok (.value v) w') (hK : K (a.put o.dst v) w') : wpOp P ops Q i K a w := by
  refine wpOp_of ho ?_
  rw [if_pos (by simp [Region.wanted, hg])]
  unfold Oper.wp
  rw [hr]
  exact hK
end
end Go.Proofs.Ytbhhkaaidhapbaa
