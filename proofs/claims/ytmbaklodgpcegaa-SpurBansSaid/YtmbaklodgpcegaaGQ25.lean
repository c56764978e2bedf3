/- Several texts of mine in one: Facts6, Facts7. No condition. -/
import Derived.Test.YtmbaklodgpcegaaGQ24
import Derived.Test.YtmbaklodgpcegaaNewVar

/- Drawn regions by facts, in few words: what operations left by a table, facts over what one or two of them left. No condition. -/
namespace Go.Proofs.Ytmbaklodgpcegaa
open Go.Sort Go.RowKit
set_option linter.unusedSimpArgs false
set_option linter.unusedVariables false
/-- What operations left, by a table. -/
def TF (l : List (Nat × Value)) (V : Array Bool) (x : Nat → Value) : Prop := ∀ p ∈ l, V.getD p.1 true = true → x p.1 = p.2
theorem TF.get {l : List (Nat × Value)} {V : Array Bool} {x : Nat → Value} (h : TF l V x) (k : Nat) {j : Nat} {v : Value} (hk : l[k]? = some (j, v)) (hv : V.getD j true = true) : x j = v := h (j, v) (List.mem_of_getElem? hk) hv
theorem TF.off {l : List (Nat × Value)} {V : Array Bool} {x : Nat → Value} (h : TF l V x) {i : Nat} {v : Value} (hi : (l.all fun p => !(i == p.1)) = true) : TF l (V.setIfInBounds i true) (upd x i v) := fun p hp hv => by
  have hne := List.all_eq_true.1 hi p hp
  have hne2 : i ≠ p.1 := by simpa using hne
  rw [upd_ne x v (fun e => hne2 e.symm)]
  exact h p hp (by rw [← getD_set_ne true hne2]; exact hv)
theorem TF.on {l : List (Nat × Value)} {V : Array Bool} {x : Nat → Value} (h : TF l V x) {i : Nat} {v : Value} (k : Nat) (hk : l[k]? = some (i, v)) (hi : ((l.eraseIdx k).all fun p => !(i == p.1)) = true) : TF l (V.setIfInBounds i true) (upd x i v) := fun p hp hv => by
  obtain ⟨j, hj⟩ := List.getElem?_of_mem hp
  by_cases e : j = k
  · subst e
    rw [hj] at hk
    injection hk with hk
    subst hk
    exact upd_same _ _ _
  · have hm : p ∈ l.eraseIdx k := List.mem_eraseIdx_iff_getElem?.2 ⟨j, e, hj⟩
    have hne := List.all_eq_true.1 hi p hm
    have hne2 : i ≠ p.1 := by simpa using hne
    rw [upd_ne x v (fun e => hne2 e.symm)]
    exact h p hp (by rw [← getD_set_ne true hne2]; exact hv)
theorem TF.none {l : List (Nat × Value)} {n : Nat} {x : Nat → Value} (h : (l.all fun p => decide (p.1 < n)) = true) : TF l (Array.replicate n false) x := fun p hp hv => by
  have h1 := of_decide_eq_true (List.all_eq_true.1 h p hp)
  simp [h1] at hv
variable {V : Array Bool} {x : Nat → Value} {i j k a b : Nat} {v : Value}
theorem un_set (h : (i == j) = false) (hv : (V.setIfInBounds i true).getD j true = true) : V.getD j true = true := by
  have hne : i ≠ j := by simpa using h
  rw [← getD_set_ne true hne]; exact hv
theorem upd_off (x : Nat → Value) (v : Value) (h : (i == a) = false) : upd x i v a = x a := upd_ne x v (fun e => by subst e; simp at h)
/-- A fact over what one operation left. -/
theorem ku1 {P : Value → Prop} (f : V.getD j true = true → P (x a)) (h1 : (i == j) = false) (h2 : (i == a) = false) (hv : (V.setIfInBounds i true).getD j true = true) : P (upd x i v a) := by
  rw [upd_off x v h2]; exact f (un_set h1 hv)
/-- .. over what two of them left. -/
theorem ku2 {P : Value → Value → Prop} (f : V.getD j true = true → P (x a) (x b)) (h1 : (i == j) = false) (h2 : (i == a) = false) (h3 : (i == b) = false) (hv : (V.setIfInBounds i true).getD j true = true) : P (upd x i v a) (upd x i v b) := by
  rw [upd_off x v h2, upd_off x v h3]; exact f (un_set h1 hv)
/-- .. where a third one's having come up counts. -/
theorem ku3 {P : Bool → Value → Value → Prop} (f : V.getD j true = true → P (V.getD k true) (x a) (x b)) (h1 : (i == j) = false) (h2 : (i == a) = false) (h3 : (i == b) = false) (h4 : (i == k) = false) (hv : (V.setIfInBounds i true).getD j true = true) : P ((V.setIfInBounds i true).getD k true) (upd x i v a) (upd x i v b) := by
  have hne : i ≠ k := by simpa using h4
  rw [upd_off x v h2, upd_off x v h3, getD_set_ne true hne]; exact f (un_set h1 hv)
end Go.Proofs.Ytmbaklodgpcegaa

/- Drawn regions in which a variable is made of what a call answers: facts over the world, in few words. No condition. -/
namespace Go.Proofs.Ytmbaklodgpcegaa
open Go.Sort Go.RowKit
set_option linter.unusedSimpArgs false
set_option linter.unusedVariables false
variable {V : Array Bool} {x : Nat → Value} {i j k m s : Nat} {v : Value} {w w' : World}
theorem set_up (V : Array Bool) (i : Nat) : (V.setIfInBounds i true).getD i true = true := by
  by_cases hs : i < V.size
  · simp [hs]
  · simp [hs]
theorem un_setF (h : (i == j) = false) (hv : (V.setIfInBounds i true).getD j true = false) : V.getD j true = false := by
  have hne : i ≠ j := by simpa using h
  rw [← getD_set_ne true hne]; exact hv
theorem ne_of_down (q : (V.setIfInBounds i true).getD k true = false) : (i == k) = false := by
  cases hc : (i == k) with
  | false => rfl
  | true =>
    have e : i = k := by simpa using hc
    subst e
    rw [set_up] at q; cases q
/-- A fact over the world and over what one operation left. -/
theorem kM {P : World → Value → Prop} (f : V.getD j true = true → P w (x j)) (h : (i == j) = false) (hup : ∀ u, P w u → P w' u) : (V.setIfInBounds i true).getD j true = true → P w' (upd x i v j) := fun q => by
  rw [upd_off x v h]; exact hup _ (f (un_set h q))
/-- .. till another one has come up. -/
theorem kD {P : World → Value → Prop} (f : V.getD j true = true → V.getD k true = false → P w (x j)) (h : (i == j) = false) (hup : ∀ u, P w u → P w' u) : (V.setIfInBounds i true).getD j true = true → (V.setIfInBounds i true).getD k true = false → P w' (upd x i v j) := fun q q2 => by
  rw [upd_off x v h]; exact hup _ (f (un_set h q) (un_setF (ne_of_down q2) q2))
/-- What a call answered: a value of that form, its row in new memory. -/
def Fin1 (sh : Value → Value) (base : Nat) (T : TypeId) (K n : Nat) (xs : List Value) (w : World) (X : Value) : Prop := ∃ u, X = sh u ∧ w.ownsRow base T K u n xs
theorem Fin1.up {sh : Value → Value} {base : Nat} {T : TypeId} {K n : Nat} {xs : List Value} (hb : Below w.heap.size w w') : ∀ X, Fin1 sh base T K n xs w X → Fin1 sh base T K n xs w' X := fun _ ⟨u, h1, h2⟩ =>
  ⟨u, h1, h2.kept (grown_of_below (row := some w.heap.size) hb) (.inr (fun e => by have := (h2.lt _ e).2; omega))⟩
/-- Its row is not in that block. -/
def Off1 (sh : Value → Value) (b : Nat) (X : Value) : Prop := ∀ u, X = sh u → u.ownBlock ≠ some b
/-- A variable that was made. -/
def VarP (base : Nat) (T : TypeId) (z : Array Value) (w : World) (xm : Value) (Q : Nat → Prop) : Prop := ∃ b, xm = .pointer (some ⟨b, 0, none⟩) ∧ base ≤ b ∧ Blok w b T z ∧ Q b
/-- .. and what was stored into it. -/
def StoP (base : Nat) (T : TypeId) (w : World) (p a : Value) : Prop := ∃ (b : Nat) (cs : Array Value), p = .pointer (some ⟨b, 0, none⟩) ∧ base ≤ b ∧ a = .agg cs ∧ Blok w b T cs
section
variable {sh : Value → Value} {base base1 : Nat} {T T1 : TypeId} {z : Array Value} {K n : Nat} {xs : List Value}
theorem kV (f : V.getD m true = true → V.getD s true = false → VarP base T z w (x m) (fun b => V.getD j true = true → Off1 sh b (x j))) (h1 : (i == m) = false) (h2 : (i == j) = false) (hb : Below w.heap.size w w') :
    (V.setIfInBounds i true).getD m true = true → (V.setIfInBounds i true).getD s true = false → VarP base T z w' (upd x i v m) (fun b => (V.setIfInBounds i true).getD j true = true → Off1 sh b (upd x i v j)) := fun q q2 => by
  obtain ⟨b, e1, e2, e3, e4⟩ := f (un_set h1 q) (un_setF (ne_of_down q2) q2)
  rw [upd_off x v h1, upd_off x v h2]
  exact ⟨b, e1, e2, e3.below hb e3.lt, fun q3 => e4 (un_set h2 q3)⟩
/-- The call's own coming up. -/
theorem kVi (f : V.getD m true = true → V.getD s true = false → VarP base T z w (x m) (fun b => V.getD i true = true → Off1 sh b (x i))) (h1 : (i == m) = false) (hb : Below w.heap.size w w') (hinj : ∀ a c, sh a = sh c → a = c) {u : Value} (hown : w'.ownsRow w.heap.size T1 K u n xs) :
    (V.setIfInBounds i true).getD m true = true → (V.setIfInBounds i true).getD s true = false → VarP base T z w' (upd x i (sh u) m) (fun b => (V.setIfInBounds i true).getD i true = true → Off1 sh b (upd x i (sh u) i)) := fun q q2 => by
  obtain ⟨b, e1, e2, e3, e4⟩ := f (un_set h1 q) (un_setF (ne_of_down q2) q2)
  rw [upd_off x _ h1, upd_same]
  refine ⟨b, e1, e2, e3.below hb e3.lt, fun _ u' hu hc => ?_⟩
  obtain rfl := hinj _ _ hu
  have h4 := (hown.lt b hc).1
  have h5 := e3.lt
  omega
/-- The variable's own coming up. -/
theorem kVm (g : V.getD j true = true → Fin1 sh base1 T1 K n xs w (x j)) (hbs : base ≤ w.heap.size) (h : (m == j) = false) (hinj : ∀ a c, sh a = sh c → a = c) :
    (V.setIfInBounds m true).getD m true = true → (V.setIfInBounds m true).getD s true = false → VarP base T z (w.alloc (.cells z T)) (upd x m (.pointer (some ⟨w.heap.size, 0, none⟩)) m) (fun b => (V.setIfInBounds m true).getD j true = true → Off1 sh b (upd x m (.pointer (some ⟨w.heap.size, 0, none⟩)) j)) := fun q q2 => by
  rw [upd_same, upd_off x _ h]
  refine ⟨w.heap.size, rfl, hbs, Blok.new w T z, fun q3 u hu hc => ?_⟩
  obtain ⟨u', h1, h2⟩ := g (un_set h q3)
  obtain rfl := hinj _ _ (h1.symm.trans hu)
  have := (h2.lt _ hc).2
  omega
theorem kS (f : V.getD s true = true → StoP base T w (x m) (x j)) (h1 : (i == s) = false) (h2 : (i == m) = false) (h3 : (i == j) = false) (hb : Below w.heap.size w w') :
    (V.setIfInBounds i true).getD s true = true → StoP base T w' (upd x i v m) (upd x i v j) := fun q => by
  obtain ⟨b, cs, e1, e2, e3, e4⟩ := f (un_set h1 q)
  rw [upd_off x v h2, upd_off x v h3]
  exact ⟨b, cs, e1, e2, e3, e4.below hb e4.lt⟩
end
end Go.Proofs.Ytmbaklodgpcegaa
