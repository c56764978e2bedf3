/- A region that draws its order, by what each operation leaves: an invariant over the set of those that have come up; a case for each operation, whatever the order. No condition. -/
import Derived.Test.YtbhhkaaidhapbaaNewVar
namespace Go.Proofs.Ytbhhkaaidhapbaa
open Go.Sort Go.RowKit
set_option linter.unusedSimpArgs false
set_option linter.unusedVariables false
section
variable {P : Program} {ops : Array Oper} {md : Region.Mode}
theorem count_all {V : Array Bool} (h : V.toList.count false = 0) (i : Nat) : V.getD i true = true := by
  cases hv : V.getD i true with
  | true => rfl
  | false =>
    have hlt : i < V.size := by
      rcases Nat.lt_or_ge i V.size with h1 | h1
      · exact h1
      · simp [Array.getD, Nat.not_lt.2 h1] at hv
    have e : V[i] = false := by simpa [Array.getD, hlt] using hv
    have hm : false ∈ V.toList := by rw [← e]; simp
    have := List.count_pos_iff.2 hm
    omega
theorem count_step {V : Array Bool} {i f : Nat} (h : V.toList.count false = f + 1) (hv : V.getD i true = false) : (V.setIfInBounds i true).toList.count false = f := by
  have hlt : i < V.size := by
    rcases Nat.lt_or_ge i V.size with h1 | h1
    · exact h1
    · simp [Array.getD, Nat.not_lt.2 h1] at hv
  have e : V[i] = false := by simpa [Array.getD, hlt] using hv
  have hl : i < V.toList.length := by simpa using hlt
  have e2 : V.toList[i] = false := by simpa using e
  rw [Array.toList_setIfInBounds, List.count_set hl, e2, h]
  simp
/-- Those that operation i waits for have come up. -/
def Afters (md : Region.Mode) (ops : Array Oper) (i : Nat) (V : Array Bool) : Prop := ∀ o, ops[i]? = some o → ∀ e ∈ o.after, Region.binds md e = true → V.getD e.on false = true
/-- Whatever has come up, those that it waits for have. -/
def Closed (md : Region.Mode) (ops : Array Oper) (V : Array Bool) : Prop := ∀ j o, ops[j]? = some o → V.getD j true = true → ∀ e ∈ o.after, Region.binds md e = true → V.getD e.on false = true
theorem getD_monof {V : Array Bool} {i j : Nat} (h : V.getD j false = true) : (V.setIfInBounds i true).getD j false = true := by
  by_cases e : i = j
  · subst e
    have hs : i < V.size := by
      rcases Nat.lt_or_ge i V.size with h1 | h1
      · exact h1
      · simp [Array.getD, Nat.not_lt.2 h1] at h
    simp [hs]
  · rw [getD_set_ne false e]; exact h
theorem Closed.step {V : Array Bool} {i : Nat} (h : Closed md ops V) (ha : Afters md ops i V) : Closed md ops (V.setIfInBounds i true) := by
  intro j o ho hj e he hb
  by_cases hij : i = j
  · subst hij
    exact getD_monof (ha o ho e he hb)
  · rw [getD_set_ne true hij] at hj
    exact getD_monof (h j o ho hj e he hb)
theorem Closed.none {n : Nat} (hn : n = ops.size) : Closed md ops (Array.replicate n false) := by
  intro j o ho hj
  have hlt : j < ops.size := (Array.getElem?_eq_some_iff.1 ho).1
  subst hn
  simp [hlt] at hj
theorem wpAny_facts {Q' : Exit → Act → World → Prop} (hlex : lexOrd md ops = true) (I : Array Bool → Act → World → Prop)
    (hs : ∀ i, i < ops.size → ∀ V a w, V.size = ops.size → V.getD i true = false → Afters md ops i V → Closed md ops V → I V a w → wpOp P ops Q' i (fun a' w' => I (V.setIfInBounds i true) a' w') a w)
    (he : ∀ V a w, (∀ i, i < ops.size → V.getD i true = true) → I V a w → Q' .normal a w) :
    ∀ (f : Nat) (V : Array Bool) (a : Act) (w : World), V.size = ops.size → V.toList.count false = f → Closed md ops V → I V a w → wpAny P md ops Q' f V a w
  | 0, V, a, w, hsz, hc, _, hI => by
    refine ⟨List.eq_nil_iff_forall_not_mem.2 fun i hi => ?_, he V a w (fun i _ => count_all hc i) hI⟩
    have := (mem_ready.1 hi).1
    rw [count_all hc i] at this
    cases this
  | f + 1, V, a, w, hsz, hc, hcl, hI => by
    refine ⟨fun h0 => he V a w (all_listed hlex h0 hsz) hI, fun i hi => ?_⟩
    obtain ⟨hun, o, ho, hall⟩ := mem_ready.1 hi
    have hlt : i < ops.size := (Array.getElem?_eq_some_iff.1 ho).1
    have haf : Afters md ops i V := fun o' ho' => by
      have : o' = o := Option.some.inj (ho'.symm.trans ho)
      subst this
      exact hall
    exact wpOp_mono (fun a' w' h' => wpAny_facts hlex I hs he f _ a' w' (by simp [hsz]) (count_step hc hun) (hcl.step haf) h') (hs i hlt V a w hsz hun haf hcl hI)
theorem wp_region_facts {id : Nat} {Q' : Exit → Act → World → Prop} {a : Act} {w : World} {l : List Oper} (hmo : P.follows .mixedOrders = true) (hlex : lexOrd .any l.toArray = true) (I : Array Bool → Act → World → Prop)
    (h0 : I (Array.replicate l.length false) a w.drew)
    (hs : ∀ i, i < l.length → ∀ V a w, V.size = l.length → V.getD i true = false → Afters .any l.toArray i V → Closed .any l.toArray V → I V a w → wpOp P l.toArray Q' i (fun a' w' => I (V.setIfInBounds i true) a' w') a w)
    (he : ∀ V a w, (∀ i, i < l.length → V.getD i true = true) → I V a w → Q' .normal a w) : (Code.region id l.toArray true).wp P Q' a w := by
  refine wp_region_any hmo ?_
  have := wpAny_facts (P := P) (md := .any) (ops := l.toArray) (Q' := Q') hlex I (fun i hi V a w hsz => hs i (by simpa using hi) V a w (by simpa using hsz)) (fun V a w hall => he V a w (fun i hi => hall i (by simpa using hi))) l.length (Array.replicate l.length false) a w.drew (by simp) (by simp) (Closed.none (by simp)) h0
  exact this
end
end Go.Proofs.Ytbhhkaaidhapbaa
