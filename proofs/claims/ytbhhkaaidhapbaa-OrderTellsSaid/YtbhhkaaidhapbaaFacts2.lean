/- XFacts, with the frame written as the frame ahead and a value for each operation. No condition. -/
import Derived.Test.YtbhhkaaidhapbaaFacts
import Derived.Test.YtbhhkaaidhapbaaGQ0
namespace Go.Proofs.Ytbhhkaaidhapbaa
open Go.Sort Go.RowKit
set_option linter.unusedSimpArgs false
set_option linter.unusedVariables false
section
variable {P : Program} {ops : Array Oper} {md : Region.Mode}
def putAll : Act → List (Option Tmp) → (Nat → Value) → Nat → Act
  | a, [], _, _ => a
  | a, d :: ds, x, k => putAll (a.put d (x k)) ds x (k + 1)
def upd (x : Nat → Value) (i : Nat) (v : Value) : Nat → Value := fun j => if j = i then v else x j
theorem upd_same (x : Nat → Value) (i : Nat) (v : Value) : upd x i v i = v := by simp [upd]
theorem upd_ne (x : Nat → Value) {i j : Nat} (v : Value) (h : j ≠ i) : upd x i v j = x j := by simp [upd, h]
def nodupB : List (Option Tmp) → Bool
  | [] => true
  | d :: ds => (d.isNone || !ds.contains d) && nodupB ds
theorem putAll_congr {x y : Nat → Value} : ∀ (ds : List (Option Tmp)) (a : Act) (k : Nat), (∀ j, k ≤ j → x j = y j) → putAll a ds x k = putAll a ds y k
  | [], _, _, _ => rfl
  | d :: ds, a, k, h => by
    rw [putAll, putAll, h k (Nat.le_refl _)]
    exact putAll_congr ds _ (k + 1) (fun j hj => h j (by omega))
theorem putAll_last {x : Nat → Value} {d : Option Tmp} {v : Value} : ∀ (ds : List (Option Tmp)) (a : Act) (k : Nat), (∀ e, d = some e → some e ∉ ds) → (putAll a ds x k).put d v = putAll (a.put d v) ds x k
  | [], _, _, _ => rfl
  | d' :: ds, a, k, h => by
    rw [putAll, putAll, putAll_last ds _ (k + 1) (fun e he hm => h e he (List.mem_cons_of_mem _ hm)), Act.put_comm a (x k) v (fun e he hd => h e hd (by rw [he]; simp))]
theorem put_put (a : Act) (d : Option Tmp) (v u : Value) : (a.put d v).put d u = a.put d u := by
  cases d with
  | none => rfl
  | some d => simp [Act.put]
theorem putAll_put {x : Nat → Value} {v : Value} : ∀ (ds : List (Option Tmp)) (a : Act) (k i : Nat) (d : Option Tmp), nodupB ds = true → ds[i]? = some d → (putAll a ds x k).put d v = putAll a ds (upd x (k + i) v) k
  | [], _, _, _, _, _, h => by simp at h
  | d' :: ds, a, k, 0, d, hn, h => by
    have hd : d' = d := by simpa using h
    subst hd
    rw [putAll, putAll, putAll_last ds _ (k + 1) (fun e he => by
      simp only [nodupB, Bool.and_eq_true, Bool.or_eq_true] at hn
      rcases hn.1 with h1 | h1
      · rw [he] at h1; cases h1
      · simpa [he] using h1), put_put, show upd x (k + 0) v k = v from upd_same x k v]
    exact putAll_congr ds _ (k + 1) (fun j hj => (upd_ne x v (by omega)).symm)
  | d' :: ds, a, k, i + 1, d, hn, h => by
    simp only [nodupB, Bool.and_eq_true] at hn
    rw [putAll, putAll, putAll_put ds _ (k + 1) i d hn.2 (by simpa using h), show k + 1 + i = k + (i + 1) by omega, upd_ne x v (by omega)]
theorem putAll_self (a : Act) : ∀ (ds : List (Option Tmp)) (x : Nat → Value) (k : Nat), (∀ j e, ds[j]? = some (some e) → x (k + j) = a.tmps.getD e undef) → a = putAll a ds x k
  | [], _, _, _ => rfl
  | d :: ds, x, k, h => by
    have e : a.put d (x k) = a := by
      cases d with
      | none => rfl
      | some e =>
        have := h 0 e rfl
        rw [Nat.add_zero] at this
        rw [this]
        have h2 : a.tmps.setIfInBounds e (a.tmps.getD e undef) = a.tmps := by
          apply Array.ext_getElem?
          intro j
          by_cases hj : j = e
          · subst hj
            by_cases hs : j < a.tmps.size
            · simp [hs]
            · simp [hs]
          · rw [Array.getElem?_setIfInBounds_ne (Ne.symm hj)]
        show ({ a with tmps := a.tmps.setIfInBounds e (a.tmps.getD e undef) } : Act) = a
        rw [h2]
    rw [putAll, e]
    exact putAll_self a ds x (k + 1) (fun j e' hj => by rw [show k + 1 + j = k + (j + 1) by omega]; exact h (j + 1) e' (by simpa using hj))
/-- F: of those that have come up, what each left; the frame is the frame ahead, with a value for each. -/
theorem wp_region_frames {id : Nat} {Q' : Exit → Act → World → Prop} {a : Act} {w : World} {l : List Oper} (hmo : P.follows .mixedOrders = true) (hlex : lexOrd .any l.toArray = true) (hnd : nodupB (l.map (·.dst)) = true) (F : Array Bool → (Nat → Value) → World → Prop)
    (h0 : ∀ x, F (Array.replicate l.length false) x w.drew)
    (hs : ∀ V x b w', b = putAll a (l.map (·.dst)) x 0 → V.size = l.length → F V x w' → ∀ i, i < l.length → V.getD i true = false → Afters .any l.toArray i V → Closed .any l.toArray V →
      wpOp P l.toArray Q' i (fun b' w'' => ∃ o v, l[i]? = some o ∧ b' = b.put o.dst v ∧ F (V.setIfInBounds i true) (upd x i v) w'') b w')
    (he : ∀ V x w', (∀ i, i < l.length → V.getD i true = true) → F V x w' → Q' .normal (putAll a (l.map (·.dst)) x 0) w') : (Code.region id l.toArray true).wp P Q' a w := by
  refine wp_region_facts hmo hlex (fun V b w' => ∃ x, b = putAll a (l.map (·.dst)) x 0 ∧ F V x w') ?_ ?_ ?_
  · refine ⟨fun k => match (l.map (·.dst))[k]? with | some (some e) => a.tmps.getD e undef | _ => undef, ?_, h0 _⟩
    exact putAll_self a _ _ 0 (fun j e hj => by simp only [Nat.zero_add, hj])
  · rintro i hi V b w' hsz hun haf hcl ⟨x, hb, hF⟩
    refine wpOp_mono ?_ (hs V x b w' hb hsz hF i hi hun haf hcl)
    rintro b' w'' ⟨o, v, ho, rfl, hF'⟩
    refine ⟨upd x i v, ?_, hF'⟩
    rw [hb, putAll_put _ a 0 i o.dst hnd (by simp [ho]), Nat.zero_add]
  · rintro V b w' hall ⟨x, rfl, hF⟩
    exact he V x w' hall hF
end
end Go.Proofs.Ytbhhkaaidhapbaa
