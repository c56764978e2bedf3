/- Several texts of mine in one: Facts, Facts2, Facts3, Facts4, Facts5, Facts6, Facts7. No condition. -/
import Derived.Test.YtmbaklodgpcegaaGreatNewVar
import Derived.Test.YtmbaklodgpcegaaGreatGQ16
import Derived.Test.YtmbaklodgpcegaaGreatGQ1
import Derived.Test.YtmbaklodgpcegaaGreatQTail

/- A region that draws its order, by what each operation leaves: an invariant over the set of those that have come up; a case for each operation, whatever the order. No condition. -/
namespace Go.Proofs.YtmbaklodgpcegaaGreat
open Go.Sort Go.RowKit
set_option linter.unusedSimpArgs false
set_option linter.unusedVariables false
section
variable {P : Program} {ops : Array Oper} {md : Region.Mode}
theorem count_all {V : Array Bool} (h : V.toList.count false = 0) (i : Nat) : V.getD i true = true := by
  cases hv : V.getD i true with
  | true => rfl
  | false =>
    have hlt : i < V.size := by
      rcases Nat.lt_or_ge i V.size with h1 | h1
      · exact h1
      · simp [Array.getD, Nat.not_lt.2 h1] at hv
    have e : V[i] = false := by simpa [Array.getD, hlt] using hv
    have hm : false ∈ V.toList := by rw [← e]; simp
    have := List.count_pos_iff.2 hm
    omega
theorem count_step {V : Array Bool} {i f : Nat} (h : V.toList.count false = f + 1) (hv : V.getD i true = false) : (V.setIfInBounds i true).toList.count false = f := by
  have hlt : i < V.size := by
    rcases Nat.lt_or_ge i V.size with h1 | h1
    · exact h1
    · simp [Array.getD, Nat.not_lt.2 h1] at hv
  have e : V[i] = false := by simpa [Array.getD, hlt] using hv
  have hl : i < V.toList.length := by simpa using hlt
  have e2 : V.toList[i] = false := by simpa using e
  rw [Array.toList_setIfInBounds, List.count_set hl, e2, h]
  simp
/-- Those that operation i waits for have come up. -/
def Afters (md : Region.Mode) (ops : Array Oper) (i : Nat) (V : Array Bool) : Prop := ∀ o, ops[i]? = some o → ∀ e ∈ o.after, Region.binds md e = true → V.getD e.on false = true
/-- Whatever has come up, those that it waits for have. -/
def Closed (md : Region.Mode) (ops : Array Oper) (V : Array Bool) : Prop := ∀ j o, ops[j]? = some o → V.getD j true = true → ∀ e ∈ o.after, Region.binds md e = true → V.getD e.on false = true
theorem getD_monof {V : Array Bool} {i j : Nat} (h : V.getD j false = true) : (V.setIfInBounds i true).getD j false = true := by
  by_cases e : i = j
  · subst e
    have hs : i < V.size := by
      rcases Nat.lt_or_ge i V.size with h1 | h1
      · exact h1
      · simp [Array.getD, Nat.not_lt.2 h1] at h
    simp [hs]
  · rw [getD_set_ne false e]; exact h
theorem Closed.step {V : Array Bool} {i : Nat} (h : Closed md ops V) (ha : Afters md ops i V) : Closed md ops (V.setIfInBounds i true) := by
  intro j o ho hj e he hb
  by_cases hij : i = j
  · subst hij
    exact getD_monof (ha o ho e he hb)
  · rw [getD_set_ne true hij] at hj
    exact getD_monof (h j o ho hj e he hb)
theorem Closed.none {n : Nat} (hn : n = ops.size) : Closed md ops (Array.replicate n false) := by
  intro j o ho hj
  have hlt : j < ops.size := (Array.getElem?_eq_some_iff.1 ho).1
  subst hn
  simp [hlt] at hj
theorem wpAny_facts {Q' : Exit → Act → World → Prop} (hlex : lexOrd md ops = true) (I : Array Bool → Act → World → Prop)
    (hs : ∀ i, i < ops.size → ∀ V a w, V.size = ops.size → V.getD i true = false → Afters md ops i V → Closed md ops V → I V a w → wpOp P ops Q' i (fun a' w' => I (V.setIfInBounds i true) a' w') a w)
    (he : ∀ V a w, (∀ i, i < ops.size → V.getD i true = true) → I V a w → Q' .normal a w) :
    ∀ (f : Nat) (V : Array Bool) (a : Act) (w : World), V.size = ops.size → V.toList.count false = f → Closed md ops V → I V a w → wpAny P md ops Q' f V a w
  | 0, V, a, w, hsz, hc, _, hI => by
    refine ⟨List.eq_nil_iff_forall_not_mem.2 fun i hi => ?_, he V a w (fun i _ => count_all hc i) hI⟩
    have := (mem_ready.1 hi).1
    rw [count_all hc i] at this
    cases this
  | f + 1, V, a, w, hsz, hc, hcl, hI => by
    refine ⟨fun h0 => he V a w (all_listed hlex h0 hsz) hI, fun i hi => ?_⟩
    obtain ⟨hun, o, ho, hall⟩ := mem_ready.1 hi
    have hlt : i < ops.size := (Array.getElem?_eq_some_iff.1 ho).1
    have haf : Afters md ops i V := fun o' ho' => by
      have : o' = o := Option.some.inj (ho'.symm.trans ho)
      subst this
      exact hall
    exact wpOp_mono (fun a' w' h' => wpAny_facts hlex I hs he f _ a' w' (by simp [hsz]) (count_step hc hun) (hcl.step haf) h') (hs i hlt V a w hsz hun haf hcl hI)
theorem wp_region_facts {id : Nat} {Q' : Exit → Act → World → Prop} {a : Act} {w : World} {l : List Oper} (hmo : P.follows .mixedOrders = true) (hlex : lexOrd .any l.toArray = true) (I : Array Bool → Act → World → Prop)
    (h0 : I (Array.replicate l.length false) a w.drew)
    (hs : ∀ i, i < l.length → ∀ V a w, V.size = l.length → V.getD i true = false → Afters .any l.toArray i V → Closed .any l.toArray V → I V a w → wpOp P l.toArray Q' i (fun a' w' => I (V.setIfInBounds i true) a' w') a w)
    (he : ∀ V a w, (∀ i, i < l.length → V.getD i true = true) → I V a w → Q' .normal a w) : (Code.region id l.toArray true).wp P Q' a w := by
  refine wp_region_any hmo ?_
  have := wpAny_facts (P := P) (md := .any) (ops := l.toArray) (Q' := Q') hlex I (fun i hi V a w hsz => hs i (by simpa using hi) V a w (by simpa using hsz)) (fun V a w hall => he V a w (fun i hi => hall i (by simpa using hi))) l.length (Array.replicate l.length false) a w.drew (by simp) (by simp) (Closed.none (by simp)) h0
  exact this
end
end Go.Proofs.YtmbaklodgpcegaaGreat

/- XFacts, with the frame written as the frame ahead and a value for each operation. No condition. -/
namespace Go.Proofs.YtmbaklodgpcegaaGreat
open Go.Sort Go.RowKit
set_option linter.unusedSimpArgs false
set_option linter.unusedVariables false
section
variable {P : Program} {ops : Array Oper} {md : Region.Mode}
def putAll : Act → List (Option Tmp) → (Nat → Value) → Nat → Act
  | a, [], _, _ => a
  | a, d :: ds, x, k => putAll (a.put d (x k)) ds x (k + 1)
def upd (x : Nat → Value) (i : Nat) (v : Value) : Nat → Value := fun j => if j = i then v else x j
theorem upd_same (x : Nat → Value) (i : Nat) (v : Value) : upd x i v i = v := by simp [upd]
theorem upd_ne (x : Nat → Value) {i j : Nat} (v : Value) (h : j ≠ i) : upd x i v j = x j := by simp [upd, h]
def nodupB : List (Option Tmp) → Bool
  | [] => true
  | d :: ds => (d.isNone || !ds.contains d) && nodupB ds
theorem putAll_congr {x y : Nat → Value} : ∀ (ds : List (Option Tmp)) (a : Act) (k : Nat), (∀ j, k ≤ j → x j = y j) → putAll a ds x k = putAll a ds y k
  | [], _, _, _ => rfl
  | d :: ds, a, k, h => by
    rw [putAll, putAll, h k (Nat.le_refl _)]
    exact putAll_congr ds _ (k + 1) (fun j hj => h j (by omega))
theorem putAll_last {x : Nat → Value} {d : Option Tmp} {v : Value} : ∀ (ds : List (Option Tmp)) (a : Act) (k : Nat), (∀ e, d = some e → some e ∉ ds) → (putAll a ds x k).put d v = putAll (a.put d v) ds x k
  | [], _, _, _ => rfl
  | d' :: ds, a, k, h => by
    rw [putAll, putAll, putAll_last ds _ (k + 1) (fun e he hm => h e he (List.mem_cons_of_mem _ hm)), Act.put_comm a (x k) v (fun e he hd => h e hd (by rw [he]; simp))]
theorem put_put (a : Act) (d : Option Tmp) (v u : Value) : (a.put d v).put d u = a.put d u := by
  cases d with
  | none => rfl
  | some d => simp [Act.put]
theorem putAll_put {x : Nat → Value} {v : Value} : ∀ (ds : List (Option Tmp)) (a : Act) (k i : Nat) (d : Option Tmp), nodupB ds = true → ds[i]? = some d → (putAll a ds x k).put d v = putAll a ds (upd x (k + i) v) k
  | [], _, _, _, _, _, h => by simp at h
  | d' :: ds, a, k, 0, d, hn, h => by
    have hd : d' = d := by simpa using h
    subst hd
    rw [putAll, putAll, putAll_last ds _ (k + 1) (fun e he => by
      simp only [nodupB, Bool.and_eq_true, Bool.or_eq_true] at hn
      rcases hn.1 with h1 | h1
      · rw [he] at h1; cases h1
      · simpa [he] using h1), put_put, show upd x (k + 0) v k = v from upd_same x k v]
    exact putAll_congr ds _ (k + 1) (fun j hj => (upd_ne x v (by omega)).symm)
  | d' :: ds, a, k, i + 1, d, hn, h => by
    simp only [nodupB, Bool.and_eq_true] at hn
    rw [putAll, putAll, putAll_put ds _ (k + 1) i d hn.2 (by simpa using h), show k + 1 + i = k + (i + 1) by omega, upd_ne x v (by omega)]
theorem putAll_self (a : Act) : ∀ (ds : List (Option Tmp)) (x : Nat → Value) (k : Nat), (∀ j e, ds[j]? = some (some e) → x (k + j) = a.tmps.getD e undef) → a = putAll a ds x k
  | [], _, _, _ => rfl
  | d :: ds, x, k, h => by
    have e : a.put d (x k) = a := by
      cases d with
      | none => rfl
      | some e =>
        have := h 0 e rfl
        rw [Nat.add_zero] at this
        rw [this]
        have h2 : a.tmps.setIfInBounds e (a.tmps.getD e undef) = a.tmps := by
          apply Array.ext_getElem?
          intro j
          by_cases hj : j = e
          · subst hj
            by_cases hs : j < a.tmps.size
            · simp [hs]
            · simp [hs]
          · rw [Array.getElem?_setIfInBounds_ne (Ne.symm hj)]
        show ({ a with tmps := a.tmps.setIfInBounds e (a.tmps.getD e undef) } : Act) = a
        rw [h2]
    rw [putAll, e]
    exact putAll_self a ds x (k + 1) (fun j e' hj => by rw [show k + 1 + j = k + (j + 1) by omega]; exact h (j + 1) e' (by simpa using hj))
/-- F: of those that have come up, what each left; the frame is the frame ahead, with a value for each. -/
theorem wp_region_frames {id : Nat} {Q' : Exit → Act → World → Prop} {a : Act} {w : World} {l : List Oper} (hmo : P.follows .mixedOrders = true) (hlex : lexOrd .any l.toArray = true) (hnd : nodupB (l.map (·.dst)) = true) (F : Array Bool → (Nat → Value) → World → Prop)
    (h0 : ∀ x, F (Array.replicate l.length false) x w.drew)
    (hs : ∀ V x b w', b = putAll a (l.map (·.dst)) x 0 → V.size = l.length → F V x w' → ∀ i, i < l.length → V.getD i true = false → Afters .any l.toArray i V → Closed .any l.toArray V →
      wpOp P l.toArray Q' i (fun b' w'' => ∃ o v, l[i]? = some o ∧ b' = b.put o.dst v ∧ F (V.setIfInBounds i true) (upd x i v) w'') b w')
    (he : ∀ V x w', (∀ i, i < l.length → V.getD i true = true) → F V x w' → Q' .normal (putAll a (l.map (·.dst)) x 0) w') : (Code.region id l.toArray true).wp P Q' a w := by
  refine wp_region_facts hmo hlex (fun V b w' => ∃ x, b = putAll a (l.map (·.dst)) x 0 ∧ F V x w') ?_ ?_ ?_
  · refine ⟨fun k => match (l.map (·.dst))[k]? with | some (some e) => a.tmps.getD e undef | _ => undef, ?_, h0 _⟩
    exact putAll_self a _ _ 0 (fun j e hj => by simp only [Nat.zero_add, hj])
  · rintro i hi V b w' hsz hun haf hcl ⟨x, hb, hF⟩
    refine wpOp_mono ?_ (hs V x b w' hb hsz hF i hi hun haf hcl)
    rintro b' w'' ⟨o, v, ho, rfl, hF'⟩
    refine ⟨upd x i v, ?_, hF'⟩
    rw [hb, putAll_put _ a 0 i o.dst hnd (by simp [ho]), Nat.zero_add]
  · rintro V b w' hall ⟨x, rfl, hF⟩
    exact he V x w' hall hF
end
end Go.Proofs.YtmbaklodgpcegaaGreat

/- XFacts2: what a slot holds. No condition. -/
namespace Go.Proofs.YtmbaklodgpcegaaGreat
open Go.Sort Go.RowKit
set_option linter.unusedSimpArgs false
set_option linter.unusedVariables false
theorem getD_ft {V : Array Bool} {i : Nat} (h : V.getD i false = true) : V.getD i true = true := by
  unfold Array.getD at *
  split <;> simp_all
theorem getD_mono {V : Array Bool} {i j : Nat} (h : V.getD j true = true) : (V.setIfInBounds i true).getD j true = true := by
  by_cases e : i = j
  · subst e
    by_cases hs : i < V.size
    · simp [hs]
    · simp [Array.getD, hs]
  · rw [getD_set_ne true e]; exact h
theorem grown_sets {b : Nat} : ∀ (vs : List Value) (o : Nat) (w : World), w.grownBy (w.setCells b o vs) (some b)
  | [], _, _ => ⟨rfl, rfl, rfl, Nat.le_refl _, fun _ _ _ => rfl⟩
  | v :: r, o, w => by
    rw [World.setCells]
    exact grown_trans (grown_set _ _ _) (grown_sets r (o + 1) _)
def tpl (v : Value) (i : Nat) : Value := match v with
  | .tuple vs => vs.getD i undef
  | _ => undef
theorem gen_frame {P : Program} {c : Code} {Q : Exit → Act → World → Prop} {a : Act} {w : World} (h : ∀ a0, a0 = a → Code.wp P c Q a0 w) : Code.wp P c Q a w := h a rfl
theorem size_putAll {x : Nat → Value} : ∀ (ds : List (Option Tmp)) (a : Act) (k : Nat), (putAll a ds x k).tmps.size = a.tmps.size
  | [], _, _ => rfl
  | d :: ds, a, k => by rw [putAll, size_putAll ds, put_size]
theorem eval_out {x : Nat → Value} {e : Tmp} : ∀ (ds : List (Option Tmp)) (a : Act) (k : Nat), ds.contains (some e) = false → (putAll a ds x k).eval (.tmp e) = a.eval (.tmp e)
  | [], _, _, _ => rfl
  | d :: ds, a, k, h => by
    simp only [List.contains_cons, Bool.or_eq_false_iff] at h
    rw [putAll, eval_out ds _ (k + 1) h.2]
    have hne : d ≠ some e := fun he => by rw [he] at h; simp at h
    have := put_tmps a d (x k) e hne
    simp only [Act.eval, Array.getD_eq_getD_getElem?, this]
theorem eval_in {x : Nat → Value} {e : Tmp} : ∀ (ds : List (Option Tmp)) (a : Act) (k i : Nat), nodupB ds = true → ds[i]? = some (some e) → e < a.tmps.size → (putAll a ds x k).eval (.tmp e) = x (k + i)
  | [], _, _, _, _, h, _ => by simp at h
  | d :: ds, a, k, 0, hn, h, hs => by
    have hd : d = some e := by simpa using h
    subst hd
    simp only [nodupB, Bool.and_eq_true, Bool.or_eq_true] at hn
    have hc : ds.contains (some e) = false := by
      rcases hn.1 with h1 | h1
      · cases h1
      · simpa using h1
    rw [putAll, eval_out ds _ (k + 1) hc]
    simp [Act.eval, Act.put, Array.getD_eq_getD_getElem?, hs]
  | d :: ds, a, k, i + 1, hn, h, hs => by
    simp only [nodupB, Bool.and_eq_true] at hn
    rw [putAll, eval_in ds _ (k + 1) i hn.2 (by simpa using h) (by rw [put_size]; exact hs), show k + 1 + i = k + (i + 1) by omega]
end Go.Proofs.YtmbaklodgpcegaaGreat

/- XFacts3: an operation that runs by itself. No condition. -/
namespace Go.Proofs.YtmbaklodgpcegaaGreat
open Go.Sort Go.RowKit
set_option linter.unusedSimpArgs false
set_option linter.unusedVariables false
section
variable {P : Program} {ops : Array Oper}
theorem wpOp_runs {Q : Exit → Act → World → Prop} {i : Nat} {o : Oper} {K : Act → World → Prop} {a : Act} {w w' : World} {v : Value} (ho : ops[i]? = some o) (hg : o.guard = none) (hr : (execOp a.eval o).run P w = .ok (.value v) w') (hK : K (a.put o.dst v) w') : wpOp P ops Q i K a w := by
  refine wpOp_of ho ?_
  rw [if_pos (by simp [Region.wanted, hg])]
  unfold Oper.wp
  rw [hr]
  exact hK
end
end Go.Proofs.YtmbaklodgpcegaaGreat

/- A drawn region by facts: operations under a guard that holds. No condition. -/
namespace Go.Proofs.YtmbaklodgpcegaaGreat
open Go.ChangeShapes Go.WideShapes Go.ChangeAt Go.Sort Go.RowKit
set_option linter.unusedSimpArgs false
set_option linter.unusedVariables false
section
variable {P : Program} {ops : Array Oper}
/-- A fact on another operation's value, kept. -/
theorem kE {V : Array Bool} {x : Nat → Value} {i j : Nat} {v u : Value} (f : V.getD j true = true → x j = u) (h : (i == j) = false) : (V.setIfInBounds i true).getD j true = true → upd x i v j = u := fun q => by
  have hn : i ≠ j := by simpa using h
  rw [upd_ne x v (fun e => hn e.symm)]
  exact f (by rw [← getD_set_ne true hn]; exact q)
theorem wanted_on {o oj : Oper} {j : Nat} {pol : Bool} {s : Tmp} {a : Act} (hg : o.guard = some (j, pol)) (hj : ops[j]? = some oj) (hd : oj.dst = some s) (ht : a.tmps[s]?.getD undef = .bool pol) : Region.wanted o (yielded ops a.tmps) = true := by
  have h : a.tmps[s]? = some (.bool pol) := by
    cases h : a.tmps[s]? with
    | none => rw [h] at ht; cases ht
    | some v => rw [h] at ht; exact congrArg some ht
  simp [Region.wanted, hg, yielded, hj, hd, h]
theorem wpOp_runs_on {Q : Exit → Act → World → Prop} {i : Nat} {o : Oper} {K : Act → World → Prop} {a : Act} {w w' : World} {v : Value} (ho : ops[i]? = some o) (hw : Region.wanted o (yielded ops a.tmps) = true) (hr : (execOp a.eval o).run P w = .ok (.value v) w') (hK : K (a.put o.dst v) w') : wpOp P ops Q i K a w := by
  refine wpOp_of ho ?_
  rw [if_pos hw]
  unfold Oper.wp
  rw [hr]
  exact hK
theorem wanted_off {o oj : Oper} {j : Nat} {pol : Bool} {s : Tmp} {a : Act} (hg : o.guard = some (j, pol)) (hj : ops[j]? = some oj) (hd : oj.dst = some s) (ht : a.tmps[s]?.getD undef = .bool (!pol)) : Region.wanted o (yielded ops a.tmps) = false := by
  have h : a.tmps[s]? = some (.bool (!pol)) := by
    cases h : a.tmps[s]? with
    | none => rw [h] at ht; cases ht
    | some v => rw [h] at ht; exact congrArg some ht
  cases pol <;> simp [Region.wanted, hg, yielded, hj, hd, h]
theorem wpOp_off {Q : Exit → Act → World → Prop} {i : Nat} {o : Oper} {K : Act → World → Prop} {a : Act} {w : World} (ho : ops[i]? = some o) (hw : Region.wanted o (yielded ops a.tmps) = false) (hK : K (a.put o.dst undef) w) : wpOp P ops Q i K a w := by
  refine wpOp_of ho ?_
  rw [if_neg (by rw [hw]; simp)]
  exact hK
theorem wpOp_call_on {Q : Exit → Act → World → Prop} {i : Nat} {o : Oper} {K : Act → World → Prop} {a : Act} {w : World} (hi : ops[i]? = some o) (hw : Region.wanted o (yielded ops a.tmps) = true) (f : FuncId) (xs : Array Operand) (ats : Array TypeId)
    (ho : o.op = .call { callee := .value (.func f), args := xs, argTypes := ats }) (vals : Array Value) (hv : #[] ++ xs.map a.eval ++ #[] = vals) {fn : Func} (hf : P.funcs[f]? = some fn) (hb : fn.body.isNone = false) (hnm : (fn.name == "runtime.NumGoroutine") = false)
    (h : Calls P f vals w fun e w' => ∃ v, e = .returned v ∧ K (a.put o.dst v) w') : wpOp P ops Q i K a w := by
  refine wpOp_of hi ?_
  rw [if_pos hw]
  obtain ⟨dst, op, ty, pos, after, guard⟩ := o
  simp only at ho
  subst ho
  unfold Oper.wp
  rw [execOp_call_go, hv]
  have e : (callFunc f vals).run P w = .ok (.enter f vals) w := by
    have h1 : fn.name ≠ "runtime.NumGoroutine" := by simpa using hnm
    have h2 : fn.body ≠ none := by intro e; rw [e] at hb; cases hb
    simp [callFunc, run_program, hf]
    rw [if_neg h1, if_neg h2]
  rw [e]
  refine h.mono ?_
  rintro e w' ⟨v, rfl, hK⟩
  exact hK
end
end Go.Proofs.YtmbaklodgpcegaaGreat

/- Drawn regions by facts, in few words: what operations left by a table, facts over what one or two of them left. No condition. -/
namespace Go.Proofs.YtmbaklodgpcegaaGreat
open Go.Sort Go.RowKit
set_option linter.unusedSimpArgs false
set_option linter.unusedVariables false
/-- What operations left, by a table. -/
def TF (l : List (Nat × Value)) (V : Array Bool) (x : Nat → Value) : Prop := ∀ p ∈ l, V.getD p.1 true = true → x p.1 = p.2
theorem TF.get {l : List (Nat × Value)} {V : Array Bool} {x : Nat → Value} (h : TF l V x) (k : Nat) {j : Nat} {v : Value} (hk : l[k]? = some (j, v)) (hv : V.getD j true = true) : x j = v := h (j, v) (List.mem_of_getElem? hk) hv
theorem TF.off {l : List (Nat × Value)} {V : Array Bool} {x : Nat → Value} (h : TF l V x) {i : Nat} {v : Value} (hi : (l.all fun p => !(i == p.1)) = true) : TF l (V.setIfInBounds i true) (upd x i v) := fun p hp hv => by
  have hne := List.all_eq_true.1 hi p hp
  have hne2 : i ≠ p.1 := by simpa using hne
  rw [upd_ne x v (fun e => hne2 e.symm)]
  exact h p hp (by rw [← getD_set_ne true hne2]; exact hv)
theorem TF.on {l : List (Nat × Value)} {V : Array Bool} {x : Nat → Value} (h : TF l V x) {i : Nat} {v : Value} (k : Nat) (hk : l[k]? = some (i, v)) (hi : ((l.eraseIdx k).all fun p => !(i == p.1)) = true) : TF l (V.setIfInBounds i true) (upd x i v) := fun p hp hv => by
  obtain ⟨j, hj⟩ := List.getElem?_of_mem hp
  by_cases e : j = k
  · subst e
    rw [hj] at hk
    injection hk with hk
    subst hk
    exact upd_same _ _ _
  · have hm : p ∈ l.eraseIdx k := List.mem_eraseIdx_iff_getElem?.2 ⟨j, e, hj⟩
    have hne := List.all_eq_true.1 hi p hm
    have hne2 : i ≠ p.1 := by simpa using hne
    rw [upd_ne x v (fun e => hne2 e.symm)]
    exact h p hp (by rw [← getD_set_ne true hne2]; exact hv)
theorem TF.none {l : List (Nat × Value)} {n : Nat} {x : Nat → Value} (h : (l.all fun p => decide (p.1 < n)) = true) : TF l (Array.replicate n false) x := fun p hp hv => by
  have h1 := of_decide_eq_true (List.all_eq_true.1 h p hp)
  simp [h1] at hv
variable {V : Array Bool} {x : Nat → Value} {i j k a b : Nat} {v : Value}
theorem un_set (h : (i == j) = false) (hv : (V.setIfInBounds i true).getD j true = true) : V.getD j true = true := by
  have hne : i ≠ j := by simpa using h
  rw [← getD_set_ne true hne]; exact hv
theorem upd_off (x : Nat → Value) (v : Value) (h : (i == a) = false) : upd x i v a = x a := upd_ne x v (fun e => by subst e; simp at h)
/-- A fact over what one operation left. -/
theorem ku1 {P : Value → Prop} (f : V.getD j true = true → P (x a)) (h1 : (i == j) = false) (h2 : (i == a) = false) (hv : (V.setIfInBounds i true).getD j true = true) : P (upd x i v a) := by
  rw [upd_off x v h2]; exact f (un_set h1 hv)
/-- .. over what two of them left. -/
theorem ku2 {P : Value → Value → Prop} (f : V.getD j true = true → P (x a) (x b)) (h1 : (i == j) = false) (h2 : (i == a) = false) (h3 : (i == b) = false) (hv : (V.setIfInBounds i true).getD j true = true) : P (upd x i v a) (upd x i v b) := by
  rw [upd_off x v h2, upd_off x v h3]; exact f (un_set h1 hv)
/-- .. where a third one's having come up counts. -/
theorem ku3 {P : Bool → Value → Value → Prop} (f : V.getD j true = true → P (V.getD k true) (x a) (x b)) (h1 : (i == j) = false) (h2 : (i == a) = false) (h3 : (i == b) = false) (h4 : (i == k) = false) (hv : (V.setIfInBounds i true).getD j true = true) : P ((V.setIfInBounds i true).getD k true) (upd x i v a) (upd x i v b) := by
  have hne : i ≠ k := by simpa using h4
  rw [upd_off x v h2, upd_off x v h3, getD_set_ne true hne]; exact f (un_set h1 hv)
end Go.Proofs.YtmbaklodgpcegaaGreat

/- Drawn regions in which a variable is made of what a call answers: facts over the world, in few words. No condition. -/
namespace Go.Proofs.YtmbaklodgpcegaaGreat
open Go.Sort Go.RowKit
set_option linter.unusedSimpArgs false
set_option linter.unusedVariables false
variable {V : Array Bool} {x : Nat → Value} {i j k m s : Nat} {v : Value} {w w' : World}
theorem set_up (V : Array Bool) (i : Nat) : (V.setIfInBounds i true).getD i true = true := by
  by_cases hs : i < V.size
  · simp [hs]
  · simp [hs]
theorem un_setF (h : (i == j) = false) (hv : (V.setIfInBounds i true).getD j true = false) : V.getD j true = false := by
  have hne : i ≠ j := by simpa using h
  rw [← getD_set_ne true hne]; exact hv
theorem ne_of_down (q : (V.setIfInBounds i true).getD k true = false) : (i == k) = false := by
  cases hc : (i == k) with
  | false => rfl
  | true =>
    have e : i = k := by simpa using hc
    subst e
    rw [set_up] at q; cases q
/-- A fact over the world and over what one operation left. -/
theorem kM {P : World → Value → Prop} (f : V.getD j true = true → P w (x j)) (h : (i == j) = false) (hup : ∀ u, P w u → P w' u) : (V.setIfInBounds i true).getD j true = true → P w' (upd x i v j) := fun q => by
  rw [upd_off x v h]; exact hup _ (f (un_set h q))
/-- .. till another one has come up. -/
theorem kD {P : World → Value → Prop} (f : V.getD j true = true → V.getD k true = false → P w (x j)) (h : (i == j) = false) (hup : ∀ u, P w u → P w' u) : (V.setIfInBounds i true).getD j true = true → (V.setIfInBounds i true).getD k true = false → P w' (upd x i v j) := fun q q2 => by
  rw [upd_off x v h]; exact hup _ (f (un_set h q) (un_setF (ne_of_down q2) q2))
/-- What a call answered: a value of that form, its row in new memory. -/
def Fin1 (sh : Value → Value) (base : Nat) (T : TypeId) (K n : Nat) (xs : List Value) (w : World) (X : Value) : Prop := ∃ u, X = sh u ∧ w.ownsRow base T K u n xs
theorem Fin1.up {sh : Value → Value} {base : Nat} {T : TypeId} {K n : Nat} {xs : List Value} (hb : Below w.heap.size w w') : ∀ X, Fin1 sh base T K n xs w X → Fin1 sh base T K n xs w' X := fun _ ⟨u, h1, h2⟩ =>
  ⟨u, h1, h2.kept (grown_of_below (row := some w.heap.size) hb) (.inr (fun e => by have := (h2.lt _ e).2; omega))⟩
/-- Its row is not in that block. -/
def Off1 (sh : Value → Value) (b : Nat) (X : Value) : Prop := ∀ u, X = sh u → u.ownBlock ≠ some b
/-- A variable that was made. -/
def VarP (base : Nat) (T : TypeId) (z : Array Value) (w : World) (xm : Value) (Q : Nat → Prop) : Prop := ∃ b, xm = .pointer (some ⟨b, 0, none⟩) ∧ base ≤ b ∧ Blok w b T z ∧ Q b
/-- .. and what was stored into it. -/
def StoP (base : Nat) (T : TypeId) (w : World) (p a : Value) : Prop := ∃ (b : Nat) (cs : Array Value), p = .pointer (some ⟨b, 0, none⟩) ∧ base ≤ b ∧ a = .agg cs ∧ Blok w b T cs
section
variable {sh : Value → Value} {base base1 : Nat} {T T1 : TypeId} {z : Array Value} {K n : Nat} {xs : List Value}
theorem kV (f : V.getD m true = true → V.getD s true = false → VarP base T z w (x m) (fun b => V.getD j true = true → Off1 sh b (x j))) (h1 : (i == m) = false) (h2 : (i == j) = false) (hb : Below w.heap.size w w') :
    (V.setIfInBounds i true).getD m true = true → (V.setIfInBounds i true).getD s true = false → VarP base T z w' (upd x i v m) (fun b => (V.setIfInBounds i true).getD j true = true → Off1 sh b (upd x i v j)) := fun q q2 => by
  obtain ⟨b, e1, e2, e3, e4⟩ := f (un_set h1 q) (un_setF (ne_of_down q2) q2)
  rw [upd_off x v h1, upd_off x v h2]
  exact ⟨b, e1, e2, e3.below hb e3.lt, fun q3 => e4 (un_set h2 q3)⟩
/-- The call's own coming up. -/
theorem kVi (f : V.getD m true = true → V.getD s true = false → VarP base T z w (x m) (fun b => V.getD i true = true → Off1 sh b (x i))) (h1 : (i == m) = false) (hb : Below w.heap.size w w') (hinj : ∀ a c, sh a = sh c → a = c) {u : Value} (hown : w'.ownsRow w.heap.size T1 K u n xs) :
    (V.setIfInBounds i true).getD m true = true → (V.setIfInBounds i true).getD s true = false → VarP base T z w' (upd x i (sh u) m) (fun b => (V.setIfInBounds i true).getD i true = true → Off1 sh b (upd x i (sh u) i)) := fun q q2 => by
  obtain ⟨b, e1, e2, e3, e4⟩ := f (un_set h1 q) (un_setF (ne_of_down q2) q2)
  rw [upd_off x _ h1, upd_same]
  refine ⟨b, e1, e2, e3.below hb e3.lt, fun _ u' hu hc => ?_⟩
  obtain rfl := hinj _ _ hu
  have h4 := (hown.lt b hc).1
  have h5 := e3.lt
  omega
/-- The variable's own coming up. -/
theorem kVm (g : V.getD j true = true → Fin1 sh base1 T1 K n xs w (x j)) (hbs : base ≤ w.heap.size) (h : (m == j) = false) (hinj : ∀ a c, sh a = sh c → a = c) :
    (V.setIfInBounds m true).getD m true = true → (V.setIfInBounds m true).getD s true = false → VarP base T z (w.alloc (.cells z T)) (upd x m (.pointer (some ⟨w.heap.size, 0, none⟩)) m) (fun b => (V.setIfInBounds m true).getD j true = true → Off1 sh b (upd x m (.pointer (some ⟨w.heap.size, 0, none⟩)) j)) := fun q q2 => by
  rw [upd_same, upd_off x _ h]
  refine ⟨w.heap.size, rfl, hbs, Blok.new w T z, fun q3 u hu hc => ?_⟩
  obtain ⟨u', h1, h2⟩ := g (un_set h q3)
  obtain rfl := hinj _ _ (h1.symm.trans hu)
  have := (h2.lt _ hc).2
  omega
theorem kS (f : V.getD s true = true → StoP base T w (x m) (x j)) (h1 : (i == s) = false) (h2 : (i == m) = false) (h3 : (i == j) = false) (hb : Below w.heap.size w w') :
    (V.setIfInBounds i true).getD s true = true → StoP base T w' (upd x i v m) (upd x i v j) := fun q => by
  obtain ⟨b, cs, e1, e2, e3, e4⟩ := f (un_set h1 q)
  rw [upd_off x v h2, upd_off x v h3]
  exact ⟨b, cs, e1, e2, e3, e4.below hb e4.lt⟩
end
end Go.Proofs.YtmbaklodgpcegaaGreat
