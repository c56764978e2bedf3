/- A region that draws its order, in which a new variable is made by an operation that waits for nothing, and what a call hands back is stored into it: all the others are quiet, whatever stands behind the world: one walk of theirs serves every order. No condition. -/
import Derived.Test.YtbhhkaaidhapbaaQTail
import Derived.Test.YtbhhkaaidhapbaaMem2
import Derived.Deep.MidRow
namespace Go.Proofs.Ytbhhkaaidhapbaa
open Go.Sort Go.RowKit
set_option linter.unusedSimpArgs false
set_option linter.unusedVariables false
section
variable {P : Program} {ops : Array Oper} {md : Region.Mode}
/-- The worlds behind b. -/
def UpOf (b : World) : World → Prop := fun w' => ∃ p : Regrown, w' = grow (redrawn b p.d) p.os
theorem UpOf.below {b w' : World} (h : UpOf b w') : Below b.heap.size b w' := by
  obtain ⟨p, rfl⟩ := h
  exact below_regrown b p.d p.os
theorem UpOf.of {b w' : World} (h : Below b.heap.size b w') : UpOf b w' := regrown_of_below h
theorem UpOf.refl (w : World) : UpOf w w := UpOf.of (Below.refl _ _)
def lexIdx (md : Region.Mode) (ops : Array Oper) : List Nat → Array Bool → Bool
  | [], listed => (Region.ready md ops listed).isEmpty
  | k :: ks, listed => (Region.ready md ops listed).contains k && Region.free md ops listed k && lexIdx md ops ks (listed.setIfInBounds k true)
theorem wpAnyQ_idx {C : World → Prop} {Q : Act → Prop} {l : List Oper} (hs : Region.noSelect l.toArray = true) : ∀ (ks : List Nat) (listed : Array Bool) (a : Act),
    lexIdx md l.toArray ks listed = true → wpQuiet P l.toArray C Q (pickL ks l) a → wpAnyQ P md l.toArray C Q ks.length listed a
  | [], _, _, hB, h => ⟨by simpa [lexIdx] using hB, h⟩
  | k :: ks, listed, a, hB, h => by
    simp only [lexIdx, Bool.and_eq_true] at hB
    obtain ⟨⟨hr, hf⟩, hB'⟩ := hB
    have hk : k ∈ Region.ready md l.toArray listed := by simpa using hr
    obtain ⟨_, o, ho, _⟩ := mem_ready.1 hk
    have ho' : l[k]? = some o := by simpa using ho
    have hp : pickL (k :: ks) l = o :: pickL ks l := by
      have hkl : k < l.length := (List.getElem?_eq_some_iff.1 ho').1
      have e : (l.drop k).take 1 = [o] := by
        rw [List.drop_eq_getElem_cons hkl]
        have := (List.getElem?_eq_some_iff.1 ho').2
        simp [this]
      simp [pickL, e]
    rw [hp] at h
    have hst : qOp P l.toArray C k (wpQuiet P l.toArray C Q (pickL ks l)) a := by unfold qOp; simp only [ho]; exact h
    obtain ⟨v, hy, hK⟩ := yieldsIn_of_qOp ho hst
    exact wpAnyQ_first ho (Region.noSelect_spec hs) ks.length listed a (Region.free_spec ho hf) hk hy (wpAnyQ_idx hs ks _ _ hB' hK)

theorem put_tmps (a : Act) (d : Option Tmp) (v : Value) (e : Tmp) (h : d ≠ some e) : (a.put d v).tmps[e]? = a.tmps[e]? := by
  cases d with
  | none => rfl
  | some d =>
    have hne : d ≠ e := fun he => h (by rw [he])
    simp [Act.put, Array.getElem?_setIfInBounds_ne hne]
theorem put_size (a : Act) (d : Option Tmp) (v : Value) : (a.put d v).tmps.size = a.tmps.size := by
  cases d <;> simp [Act.put]
/-- What an operation left stays: the frame at the end is known, and none that is to come writes there. -/
theorem wpAnyQ_end {C : World → Prop} {F : Act} {e : Tmp} : ∀ (f : Nat) (listed : Array Bool) (a : Act), (∀ j oj, ops[j]? = some oj → listed.getD j true = false → oj.dst ≠ some e) →
    wpAnyQ P md ops C (fun a' => a' = F) f listed a → a.tmps[e]? = F.tmps[e]?
  | 0, _, _, _, h => by rw [h.2]
  | f + 1, listed, a, hd, h => by
    cases hr : Region.ready md ops listed with
    | nil => rw [h.1 hr]
    | cons i is =>
      have hi : i ∈ Region.ready md ops listed := by rw [hr]; simp
      obtain ⟨hun, oi, hoi, _⟩ := mem_ready.1 hi
      obtain ⟨v, _, hK⟩ := yieldsIn_of_qOp hoi (h.2 i hi)
      have := wpAnyQ_end f (listed.setIfInBounds i true) (a.put oi.dst v) (fun j oj hj hl => by
        by_cases hij : i = j
        · subst hij
          have : oj = oi := Option.some.inj (hj.symm.trans hoi)
          subst this
          exact hd i oj hj hun
        · rw [getD_set_ne true hij] at hl
          exact hd j oj hj hl) hK
      rw [← this, put_tmps _ _ _ _ (hd i oi hoi hun)]
theorem wpAnyQ_put {C : World → Prop} {F : Act} {f : Nat} {listed : Array Bool} {a : Act} {d : Option Tmp} {v v' : Value} (hv : ∀ e, d = some e → e < a.tmps.size → (a.put d v').tmps[e]? = F.tmps[e]?)
    (hw : ∀ e, d = some e → e < a.tmps.size → (a.put d v).tmps[e]? = F.tmps[e]?) (h : wpAnyQ P md ops C (fun a' => a' = F) f listed (a.put d v)) : wpAnyQ P md ops C (fun a' => a' = F) f listed (a.put d v') := by
  have e : a.put d v' = a.put d v := by
    cases d with
    | none => rfl
    | some d =>
      by_cases hs : d < a.tmps.size
      · have h1 := hv d rfl hs
        have h2 := hw d rfl hs
        have e1 : (a.put (some d) v').tmps[d]? = some v' := by simp [Act.put, hs]
        have e2 : (a.put (some d) v).tmps[d]? = some v := by simp [Act.put, hs]
        rw [e1] at h1
        rw [e2] at h2
        have := Option.some.inj (h1.trans h2.symm)
        rw [this]
      · simp only [Act.put]
        have hs' : a.tmps.size ≤ d := Nat.not_lt.1 hs
        rw [Array.setIfInBounds_eq_of_size_le hs', Array.setIfInBounds_eq_of_size_le hs']
  rw [e]
  exact h
def dstOnce (ops : Array Oper) : Bool :=
  (List.range ops.size).all fun i => (List.range ops.size).all fun j => decide (i = j) || match ops[i]?, ops[j]? with
    | some oi, some oj => oi.dst.isNone || decide (oi.dst ≠ oj.dst)
    | _, _ => true
theorem dstOnce_spec (h : dstOnce ops = true) {i j : Nat} {oi oj : Oper} {e : Tmp} (hi : ops[i]? = some oi) (hj : ops[j]? = some oj) (hij : i ≠ j) (he : oi.dst = some e) : oj.dst ≠ some e := by
  have hil : i < ops.size := (Array.getElem?_eq_some_iff.1 hi).1
  have hjl : j < ops.size := (Array.getElem?_eq_some_iff.1 hj).1
  have h1 := List.all_eq_true.1 (List.all_eq_true.1 h i (List.mem_range.2 hil)) j (List.mem_range.2 hjl)
  simp only [hi, hj, he, Bool.or_eq_true, decide_eq_true_eq, Option.isNone_some, Bool.false_eq_true, false_or] at h1
  rcases h1 with h1 | h1
  · exact absurd h1 hij
  · exact fun h => h1 h.symm
def lexOrd (md : Region.Mode) (ops : Array Oper) : Bool :=
  (List.range ops.size).all fun i => match ops[i]? with
    | some o => o.after.all fun e => !Region.binds md e || decide (e.on < i)
    | none => true
/-- Where none is ready, all have come up. -/
theorem all_listed (h : lexOrd md ops = true) {listed : Array Bool} (hr : Region.ready md ops listed = []) (hsz : listed.size = ops.size) : ∀ i, i < ops.size → listed.getD i true = true := by
  intro i
  induction i using Nat.strongRecOn with
  | _ i ih =>
    intro hi
    cases hl : listed.getD i true with
    | true => rfl
    | false =>
      have h1 := List.all_eq_true.1 h i (List.mem_range.2 hi)
      have hoi : ops[i]? = some ops[i] := Array.getElem?_eq_getElem hi
      have : i ∈ Region.ready md ops listed := by
        refine mem_ready.2 ⟨hl, ops[i], hoi, fun e he hb => ?_⟩
        simp only [hoi] at h1
        have h2 := Array.all_eq_true_iff_forall_mem.1 h1 e he
        simp only [hb, Bool.not_true, Bool.false_or, decide_eq_true_eq] at h2
        have h3 := ih e.on h2 (by omega)
        have h4 : e.on < listed.size := by omega
        simp [h4] at h3 ⊢
        exact h3
      rw [hr] at this
      cases this
structure NewVar (md : Region.Mode) (ops : Array Oper) (m s : Nat) (om os : Oper) (dm dv : Tmp) (T : TypeId) : Prop where
  lex : lexOrd md ops = true
  once : dstOnce ops = true
  sel : Region.noSelect ops = true
  hm : ops[m]? = some om
  hs : ops[s]? = some os
  md_ : om.dst = some dm
  sd : os.dst = none
  mg : om.guard = none
  sg : os.guard = none
  ma : ∀ e ∈ om.after, Region.binds md e = false
  store : os.op = .store T (.tmp dm) (.tmp dv)
  ne : dm ≠ dv
  waits : Region.waitsFor md ops s m = true
  value : ∀ k ok, ops[k]? = some ok → ok.dst = some dv → Region.waitsFor md ops s k = true
  apart : ∀ k ok, ops[k]? = some ok → k ≠ m → k ≠ s → om.apart ops ok = true
def newVarB (md : Region.Mode) (ops : Array Oper) (m s : Nat) (om os : Oper) (dm dv : Tmp) : Bool :=
  lexOrd md ops && dstOnce ops && Region.noSelect ops && decide (om.dst = some dm) && decide (os.dst = none) && om.guard.isNone && os.guard.isNone && om.after.all (fun e => !Region.binds md e) && decide (dm ≠ dv) &&
    Region.waitsFor md ops s m && ((List.range ops.size).all fun k => match ops[k]? with
      | some ok => (decide (ok.dst ≠ some dv) || Region.waitsFor md ops s k) && (decide (k = m) || decide (k = s) || om.apart ops ok)
      | none => true)
theorem NewVar.of {m s : Nat} {om os : Oper} {dm dv : Tmp} {T : TypeId} (hm : ops[m]? = some om) (hs : ops[s]? = some os) (hst : os.op = .store T (.tmp dm) (.tmp dv)) (h : newVarB md ops m s om os dm dv = true) : NewVar md ops m s om os dm dv T := by
  simp only [newVarB, Bool.and_eq_true, decide_eq_true_eq] at h
  obtain ⟨⟨⟨⟨⟨⟨⟨⟨⟨⟨h1, h2⟩, h3⟩, h4⟩, h5⟩, h6⟩, h7⟩, h8⟩, h9⟩, h10⟩, h11⟩ := h
  refine ⟨h1, h2, h3, hm, hs, h4, h5, by simpa using h6, by simpa using h7, fun e he => ?_, hst, h9, h10, fun k ok hk hd => ?_, fun k ok hk hkm hks => ?_⟩
  · have := Array.all_eq_true_iff_forall_mem.1 h8 e he
    simpa using this
  · have h := List.all_eq_true.1 h11 k (List.mem_range.2 (Array.getElem?_eq_some_iff.1 hk).1)
    simp only [hk, Bool.and_eq_true, Bool.or_eq_true, decide_eq_true_eq, hd] at h
    simpa using h.1
  · have h := List.all_eq_true.1 h11 k (List.mem_range.2 (Array.getElem?_eq_some_iff.1 hk).1)
    simp only [hk, Bool.and_eq_true, Bool.or_eq_true, decide_eq_true_eq, hkm, hks, false_or] at h
    exact h.2
variable {m s : Nat} {om os : Oper} {dm dv : Tmp} {T : TypeId} {F : Act} {w : World}
/-- All but the variable's own operations, from every world behind w. -/
def Rest (P : Program) (md : Region.Mode) (ops : Array Oper) (F : Act) (w : World) (f : Nat) (V : Array Bool) (a : Act) : Prop :=
  ∀ b, Below w.heap.size w b → wpAnyQ P md ops (UpOf b) (fun a' => a' = F) f V a
theorem rest_step (N : NewVar md ops m s om os dm dv T) {f i : Nat} {V : Array Bool} {a : Act} {w' : World} {od : Option Tmp} {pv : Value} {Q' : Exit → Act → World → Prop} {K : Act → World → Prop} (hod : od = none ∨ od = some dm) (hB : Below w.heap.size w w') (hR : Rest P md ops F w (f + 1) V a) (hi : i ∈ Region.ready md ops V) (hm : i ≠ m) (hs : i ≠ s)
    (hVs : V.size = ops.size) (hK : ∀ a1 w'', Below w'.heap.size w' w'' → a1.tmps.size = a.tmps.size → Rest P md ops F w f (V.setIfInBounds i true) a1 → K (a1.put od pv) w'') : wpOp P ops Q' i K (a.put od pv) w' := by
  obtain ⟨hun, oi, hoi, _⟩ := mem_ready.1 hi
  have hsel := N.sel
  have hap := N.apart i oi hoi hm hs
  obtain ⟨h1, h2, h3⟩ := Oper.apart_spec hap
  have hlook : ∀ d, od = some d → d ∉ oi.looksAt ops := fun d hd => by
    rcases hod with rfl | rfl
    · cases hd
    · injection hd with hd
      subst hd
      exact h1 _ N.md_
  have hdst : ∀ d, od = some d → oi.dst ≠ some d := fun d hd => by
    rcases hod with rfl | rfl
    · cases hd
    · injection hd with hd
      subst hd
      exact h2 _ N.md_
  have hend : ∀ (b : World) (v : Value), wpAnyQ P md ops (UpOf b) (fun a' => a' = F) f (V.setIfInBounds i true) (a.put oi.dst v) → ∀ e, oi.dst = some e → e < a.tmps.size → (a.put oi.dst v).tmps[e]? = F.tmps[e]? := fun b v h e he _ => by
    refine wpAnyQ_end f _ _ (fun j oj hj hl => ?_) h
    by_cases hij : i = j
    · subst hij
      have hlt : i < V.size := by rw [hVs]; exact (Array.getElem?_eq_some_iff.1 hoi).1
      simp [hlt] at hl
    · exact dstOnce_spec N.once hoi hj hij he
  obtain ⟨v, hy, hW⟩ := yieldsIn_of_qOp hoi ((hR w' hB).2 i hi)
  have hy' : YieldsIn P ops (UpOf w') oi v (a.put od pv) := hy.of_same (execOp_put oi (fun cs b => Region.noSelect_spec hsel i oi cs b hoi) a od pv hlook) (wanted_put oi a od pv hlook)
  have hall : Rest P md ops F w f (V.setIfInBounds i true) (a.put oi.dst v) := fun b hb => by
    obtain ⟨v', _, hW'⟩ := yieldsIn_of_qOp hoi ((hR b hb).2 i hi)
    exact wpAnyQ_put (hend w' v hW) (hend b v' hW') hW'
  have hq := hy'.qOp hoi (K := fun a'' => a'' = (a.put oi.dst v).put od pv) (Act.put_comm a pv v hdst)
  refine wpOp_of_qOp (C := UpOf w') (UpOf.refl w') (fun a'' w'' hw'' ha'' => ?_) hq
  rw [ha'']
  exact hK _ _ hw''.below (put_size _ _ _) hall

def Made (w : World) (T : TypeId) (cs : Array Value) (b : Nat) (w' : World) : Prop := w.heap.size ≤ b ∧ Blok w' b T cs ∧ Below w.heap.size w w'
theorem Made.below {w w' w'' : World} {cs : Array Value} {b : Nat} (h : Made w T cs b w') (hb : Below w'.heap.size w' w'') : Made w T cs b w'' :=
  ⟨h.1, h.2.1.below hb h.2.1.lt, h.2.2.trans (hb.mono h.2.2.size)⟩
theorem ready_of {listed : Array Bool} {V : Array Bool} (hV : ∀ j, listed.getD j true = true → V.getD j true = true) (hne : ∀ j, listed.getD j false = true → V.getD j false = true) {i : Nat} (hi : i ∈ Region.ready md ops listed) (hu : V.getD i true = false) : i ∈ Region.ready md ops V := by
  obtain ⟨_, o, ho, hall⟩ := mem_ready.1 hi
  exact mem_ready.2 ⟨hu, o, ho, fun e he hb => hne _ (hall e he hb)⟩

/-- The variable is made and filled: all the others. -/
theorem nv_done (N : NewVar md ops m s om os dm dv T) {cs : Array Value} {b : Nat} {Q' : Exit → Act → World → Prop} (hQ : ∀ w', Made w T cs b w' → Q' .normal (F.put (some dm) (.pointer (some ⟨b, 0, none⟩))) w') :
    ∀ (f : Nat) (V : Array Bool) (a : Act) (w' : World), V.size = ops.size → V.getD m true = true → V.getD s true = true → Made w T cs b w' → Rest P md ops F w f V a → wpAny P md ops Q' f V (a.put (some dm) (.pointer (some ⟨b, 0, none⟩))) w'
  | 0, V, a, w', _, _, _, hM, hR => by
    have h := hR w' hM.2.2
    exact ⟨h.1, by rw [show a = F from h.2]; exact hQ w' hM⟩
  | f + 1, V, a, w', hsz, hvm, hvs, hM, hR => by
    refine ⟨fun h0 => by rw [show a = F from (hR w' hM.2.2).1 h0]; exact hQ w' hM, fun i hi => ?_⟩
    have hun := (mem_ready.1 hi).1
    refine rest_step N (.inr rfl) hM.2.2 hR hi (fun e => by rw [e, hvm] at hun; cases hun) (fun e => by rw [e, hvs] at hun; cases hun) hsz fun a1 w'' hb _ hR1 => ?_
    exact nv_done N hQ f _ a1 w'' (by simp [hsz]) (by
      by_cases e : i = m
      · subst e; rw [hvm] at hun; cases hun
      · rw [getD_set_ne true e]; exact hvm) (by
      by_cases e : i = s
      · subst e; rw [hvs] at hun; cases hun
      · rw [getD_set_ne true e]; exact hvs) (hM.below hb) hR1
theorem set_below {w w' : World} (b : Nat) (hb : w.heap.size ≤ b) : ∀ (vs : List Value) (o : Nat), Below w.heap.size w w' → Below w.heap.size w (w'.setCells b o vs)
  | [], _, h => h
  | v :: r, o, h => by
    rw [World.setCells]
    exact set_below b hb r (o + 1) (h.setCell (p := ⟨b, o, none⟩) hb v)
theorem set_blok {b : Nat} : ∀ (vs : List Value) (o : Nat) (w' : World) (cs : Array Value), Blok w' b T cs → o + vs.length = cs.size → ∃ cs', Blok (w'.setCells b o vs) b T cs' ∧ cs'.size = cs.size ∧ (∀ j, j < o → cs'[j]? = cs[j]?) ∧ ∀ j, j < vs.length → cs'[o + j]? = vs[j]?
  | [], o, w', cs, h, _ => ⟨cs, h, rfl, fun _ _ => rfl, fun j hj => by simp at hj⟩
  | v :: r, o, w', cs, h, hl => by
    rw [World.setCells]
    simp only [List.length_cons] at hl
    obtain ⟨cs', h1, h2, h3, h4⟩ := set_blok r (o + 1) (w'.setCell ⟨b, o, none⟩ v) (cs.setIfInBounds o v) (h.set_ o v) (by simp; omega)
    refine ⟨cs', h1, by simpa using h2, fun j hj => ?_, fun j hj => ?_⟩
    · rw [h3 j (by omega), Array.getElem?_setIfInBounds_ne (by omega)]
    · cases j with
      | zero =>
        rw [Nat.add_zero, h3 o (by omega), Array.getElem?_setIfInBounds_self_of_lt (by omega)]
        rfl
      | succ j =>
        simp only [List.length_cons] at hj
        have := h4 j (by omega)
        rw [show o + (j + 1) = o + 1 + j by omega, this]
        rfl
theorem set_whole {b : Nat} {w' : World} {zs cs : Array Value} (h : Blok w' b T zs) (hz : cs.size = zs.size) : Blok (w'.setCells b 0 cs.toList) b T cs := by
  obtain ⟨cs', h1, h2, _, h4⟩ := set_blok cs.toList 0 w' zs h (by simpa using hz)
  have e : cs' = cs := by
    apply Array.ext_getElem?
    intro j
    by_cases hj : j < cs.size
    · have := h4 j (by simpa using hj)
      rw [Nat.zero_add] at this
      rw [this]
      simp
    · rw [Array.getElem?_eq_none (by omega), Array.getElem?_eq_none (by omega)]
  rwa [e] at h1
theorem setD_same {R : Array Bool} {i : Nat} (h : i < R.size) : (R.setIfInBounds i true).getD i true = true := by simp [h]
theorem wanted_plain {o : Oper} {a : Act} (h : o.guard = none) : Region.wanted o (yielded ops a.tmps) = true := by unfold Region.wanted; rw [h]
/-- One step, the variable made and not filled. -/
theorem nv_made_step (N : NewVar md ops m s om os dm dv T) {zs cs : Array Value} {b : Nat} {Q' : Exit → Act → World → Prop} (hz : cs.size = zs.size) (hi : (P.info? T).map (·.size) = some cs.size) (h1 : cs.all (·.oneCell') = true) (hF : F.tmps[dv]? = some (.agg cs)) (hdm : dm < F.tmps.size)
    (hQ : ∀ w', Made w T cs b w' → Q' .normal (F.put (some dm) (.pointer (some ⟨b, 0, none⟩))) w') (f : Nat)
    (ih : ∀ g, g + 1 = f → ∀ (R : Array Bool) (a : Act) (w' : World), R.size = ops.size → R.getD m true = true → R.getD s true = false → a.tmps.size = F.tmps.size → Made w T zs b w' → Rest P md ops F w g (R.setIfInBounds s true) a → wpAny P md ops Q' (g + 1) R (a.put (some dm) (.pointer (some ⟨b, 0, none⟩))) w')
    (R : Array Bool) (a : Act) (w' : World) (hsz : R.size = ops.size) (hrm : R.getD m true = true) (hrs : R.getD s true = false) (has : a.tmps.size = F.tmps.size) (hM : Made w T zs b w') (hR : Rest P md ops F w f (R.setIfInBounds s true) a) : wpAny P md ops Q' (f + 1) R (a.put (some dm) (.pointer (some ⟨b, 0, none⟩))) w' := by
  have hsl : s < ops.size := (Array.getElem?_eq_some_iff.1 N.hs).1
  have hml : m < ops.size := (Array.getElem?_eq_some_iff.1 N.hm).1
  refine ⟨fun h0 => absurd (all_listed N.lex h0 hsz s hsl) (by rw [hrs]; simp), fun i hir => ?_⟩
  have hun := (mem_ready.1 hir).1
  have him : i ≠ m := fun e => by rw [e, hrm] at hun; cases hun
  by_cases his : i = s
  · subst his
    have hdv : a.tmps[dv]? = some (.agg cs) := by
      rw [← hF]
      refine wpAnyQ_end f _ _ (fun j oj hj hl hd => ?_) (hR w' hM.2.2)
      have hji : i ≠ j := fun e => by
        subst e
        rw [setD_same (by omega)] at hl
        cases hl
      rw [getD_set_ne true hji] at hl
      obtain ⟨o', ho', e, he, hb, hon⟩ := Region.waitsFor_spec (N.value j oj hj hd)
      obtain ⟨_, o2, ho2, hall⟩ := mem_ready.1 hir
      obtain rfl : o2 = o' := Option.some.inj (ho2.symm.trans ho')
      have := hall e he hb
      rw [hon, getD_both hl] at this
      cases this
    unfold wpOp
    simp only [N.hs]
    rw [if_pos (wanted_plain N.sg)]
    refine .inl (wp_store_mid T (.tmp dm) (.tmp dv) N.store b 0 cs ?_ ?_ ?_ hi h1 ?_)
    · simp [Act.eval, Act.put, has, hdm]
    · rw [Act.eval_put (fun d hd => by injection hd with hd; subst hd; exact fun e => N.ne (by injection e with e; exact e.symm))]
      simp [Act.eval, hdv]
    · intro j hj
      rw [Nat.zero_add]
      refine ⟨?_, hM.2.1.free j⟩
      rw [hM.2.1.cell j]
      have : j < zs.size := by omega
      simp [this]
    · rw [N.sd]
      refine nv_done N hQ f _ a _ (by simp [hsz]) (by rw [getD_set_ne true him]; exact hrm) (setD_same (by omega)) ⟨hM.1, set_whole hM.2.1 hz, set_below b hM.1 _ _ hM.2.2⟩ hR
  · have hiV : i ∈ Region.ready md ops (R.setIfInBounds s true) := ready_mono hir his
    cases f with
    | zero =>
      have := (hR w' hM.2.2).1
      rw [this] at hiV
      cases hiV
    | succ g =>
      refine rest_step N (.inr rfl) hM.2.2 hR hiV him his (by simp [hsz]) fun a1 w'' hb ha1 hR1 => ?_
      rw [Array.setIfInBounds_comm _ _ (Ne.symm his)] at hR1
      exact ih g rfl _ a1 w'' (by simp [hsz]) (by rw [getD_set_ne true him]; exact hrm) (by rw [getD_set_ne true his]; exact hrs) (by rw [ha1, has]) (hM.below hb) hR1
/-- The variable is made, not filled. -/
theorem nv_made (N : NewVar md ops m s om os dm dv T) {zs cs : Array Value} {b : Nat} {Q' : Exit → Act → World → Prop} (hz : cs.size = zs.size) (hi : (P.info? T).map (·.size) = some cs.size) (h1 : cs.all (·.oneCell') = true) (hF : F.tmps[dv]? = some (.agg cs)) (hdm : dm < F.tmps.size)
    (hQ : ∀ w', Made w T cs b w' → Q' .normal (F.put (some dm) (.pointer (some ⟨b, 0, none⟩))) w') :
    ∀ (f : Nat) (R : Array Bool) (a : Act) (w' : World), R.size = ops.size → R.getD m true = true → R.getD s true = false → a.tmps.size = F.tmps.size → Made w T zs b w' → Rest P md ops F w f (R.setIfInBounds s true) a → wpAny P md ops Q' (f + 1) R (a.put (some dm) (.pointer (some ⟨b, 0, none⟩))) w' := by
  intro f
  induction f with
  | zero =>
    intro R a w' hsz hrm hrs has hM hR
    exact nv_made_step N hz hi h1 hF hdm hQ 0 (fun g hg => by omega) R a w' hsz hrm hrs has hM hR
  | succ f ih =>
    intro R a w' hsz hrm hrs has hM hR
    exact nv_made_step N hz hi h1 hF hdm hQ (f + 1) (fun g hg => by cases hg; exact ih) R a w' hsz hrm hrs has hM hR
/-- One step, nothing made. -/
theorem nv_open_step (N : NewVar md ops m s om os dm dv T) {zs cs : Array Value} {Q' : Exit → Act → World → Prop} (hal : ∀ (a : Act) (w : World), (execOp a.eval om).run P w = .ok (.value (.pointer (some ⟨w.heap.size, 0, none⟩))) (w.alloc (.cells zs T)))
    (hz : cs.size = zs.size) (hi : (P.info? T).map (·.size) = some cs.size) (h1 : cs.all (·.oneCell') = true) (hF : F.tmps[dv]? = some (.agg cs)) (hdm : dm < F.tmps.size)
    (hQ : ∀ b w', Made w T cs b w' → Q' .normal (F.put (some dm) (.pointer (some ⟨b, 0, none⟩))) w') (f : Nat)
    (ih : ∀ g, g + 1 = f → ∀ (R : Array Bool) (a : Act) (w' : World), R.size = ops.size → R.getD m true = false → R.getD s true = false → a.tmps.size = F.tmps.size → Below w.heap.size w w' → Rest P md ops F w g ((R.setIfInBounds m true).setIfInBounds s true) a → wpAny P md ops Q' (g + 2) R a w')
    (R : Array Bool) (a : Act) (w' : World) (hsz : R.size = ops.size) (hrm : R.getD m true = false) (hrs : R.getD s true = false) (has : a.tmps.size = F.tmps.size) (hB : Below w.heap.size w w') (hR : Rest P md ops F w f ((R.setIfInBounds m true).setIfInBounds s true) a) : wpAny P md ops Q' (f + 2) R a w' := by
  have hsl : s < ops.size := (Array.getElem?_eq_some_iff.1 N.hs).1
  have hml : m < ops.size := (Array.getElem?_eq_some_iff.1 N.hm).1
  refine ⟨fun h0 => absurd (all_listed N.lex h0 hsz s hsl) (by rw [hrs]; simp), fun i hir => ?_⟩
  have hun := (mem_ready.1 hir).1
  have his : i ≠ s := fun e => by
    subst e
    obtain ⟨o', ho', e, he, hb, hon⟩ := Region.waitsFor_spec N.waits
    obtain ⟨_, o2, ho2, hall⟩ := mem_ready.1 hir
    obtain rfl : o2 = o' := Option.some.inj (ho2.symm.trans ho')
    have := hall e he hb
    rw [hon, getD_both hrm] at this
    cases this
  by_cases him : i = m
  · subst him
    unfold wpOp
    simp only [N.hm]
    rw [if_pos (wanted_plain N.mg)]
    refine .inl ?_
    unfold Oper.wp
    rw [hal, Oper.upon_value, N.md_]
    refine nv_made N hz hi h1 hF hdm (fun w2 h2 => hQ _ w2 h2) f _ a _ (by simp [hsz]) (setD_same (by omega)) (by rw [getD_set_ne true his]; exact hrs) has ⟨hB.size, Blok.new _ _ _, hB.alloc hB.size _⟩ hR
  · have hiV : i ∈ Region.ready md ops ((R.setIfInBounds m true).setIfInBounds s true) := ready_mono (ready_mono hir him) his
    cases f with
    | zero =>
      have := (hR w' hB).1
      rw [this] at hiV
      cases hiV
    | succ g =>
      refine rest_step N (od := none) (pv := undef) (.inl rfl) hB hR hiV him his (by simp [hsz]) fun a1 w'' hb ha1 hR1 => ?_
      rw [Array.setIfInBounds_comm _ _ (Ne.symm his), Array.setIfInBounds_comm _ _ (Ne.symm him)] at hR1
      exact ih g rfl _ a1 w'' (by simp [hsz]) (by rw [getD_set_ne true him]; exact hrm) (by rw [getD_set_ne true his]; exact hrs) (by rw [ha1, has]) (hB.trans (hb.mono hB.size)) hR1
/-- Nothing is made yet. -/
theorem nv_open (N : NewVar md ops m s om os dm dv T) {zs cs : Array Value} {Q' : Exit → Act → World → Prop} (hal : ∀ (a : Act) (w : World), (execOp a.eval om).run P w = .ok (.value (.pointer (some ⟨w.heap.size, 0, none⟩))) (w.alloc (.cells zs T)))
    (hz : cs.size = zs.size) (hi : (P.info? T).map (·.size) = some cs.size) (h1 : cs.all (·.oneCell') = true) (hF : F.tmps[dv]? = some (.agg cs)) (hdm : dm < F.tmps.size)
    (hQ : ∀ b w', Made w T cs b w' → Q' .normal (F.put (some dm) (.pointer (some ⟨b, 0, none⟩))) w') :
    ∀ (f : Nat) (R : Array Bool) (a : Act) (w' : World), R.size = ops.size → R.getD m true = false → R.getD s true = false → a.tmps.size = F.tmps.size → Below w.heap.size w w' → Rest P md ops F w f ((R.setIfInBounds m true).setIfInBounds s true) a → wpAny P md ops Q' (f + 2) R a w' := by
  intro f
  induction f with
  | zero =>
    intro R a w' hsz hrm hrs has hM hR
    exact nv_open_step N hal hz hi h1 hF hdm hQ 0 (fun g hg => by omega) R a w' hsz hrm hrs has hM hR
  | succ f ih =>
    intro R a w' hsz hrm hrs has hM hR
    exact nv_open_step N hal hz hi h1 hF hdm hQ (f + 1) (fun g hg => by cases hg; exact ih) R a w' hsz hrm hrs has hM hR
theorem cell_up {w b : World} {a : Addr} {v : Value} (h : w.cell? a = some v) (hb : Below w.heap.size w b) (d : Nat) (os : Array Obj) : (grow (redrawn b d) os).cell? a = some v :=
  cell_regrown ((hb.cell (block_lt_of_cell h)).trans h) d os
theorem up_below {w b : World} (hb : Below w.heap.size w b) (d : Nat) (os : Array Obj) : Below w.heap.size w (grow (redrawn b d) os) := hb.trans ((below_regrown b d os).mono hb.size)
theorem wp_region_newvar {id : Nat} {Q' : Exit → Act → World → Prop} {a : Act} {l : List Oper} (ks : List Nat) (hmo : P.follows .mixedOrders = true) (N : NewVar .any l.toArray m s om os dm dv T) (hks : lexIdx .any l.toArray ks (((Array.replicate l.length false).setIfInBounds m true).setIfInBounds s true) = true) (hlen : ks.length + 2 = l.length)
    {zs cs : Array Value} (hal : ∀ (a : Act) (w : World), (execOp a.eval om).run P w = .ok (.value (.pointer (some ⟨w.heap.size, 0, none⟩))) (w.alloc (.cells zs T)))
    (hz : cs.size = zs.size) (hi : (P.info? T).map (·.size) = some cs.size) (h1 : cs.all (·.oneCell') = true)
    (h : ∃ F : Act, (∀ b, Below w.heap.size w b → wpQuiet P l.toArray (fun w' => ∃ p : Regrown, w' = grow (redrawn b p.d) p.os) (fun a' => a' = F) (pickL ks l) a) ∧ F.tmps[dv]? = some (.agg cs) ∧ dm < F.tmps.size ∧ a.tmps.size = F.tmps.size ∧
      ∀ b w', Made w T cs b w' → Q' .normal (F.put (some dm) (.pointer (some ⟨b, 0, none⟩))) w') : (Code.region id l.toArray true).wp P Q' a w := by
  obtain ⟨F, hq, hF, hdm, hsz, hQ⟩ := h
  refine wp_region_any hmo ?_
  have hR : Rest P .any l.toArray F w ks.length (((Array.replicate l.length false).setIfInBounds m true).setIfInBounds s true) a := fun b hb => wpAnyQ_idx N.sel ks _ a hks (hq b hb)
  have hml : m < l.length := by simpa using (Array.getElem?_eq_some_iff.1 N.hm).1
  have hsl : s < l.length := by simpa using (Array.getElem?_eq_some_iff.1 N.hs).1
  have := nv_open (md := .any) N hal hz hi h1 hF hdm hQ ks.length (Array.replicate l.length false) a w.drew (by simp) (by simp [hml]) (by simp [hsl]) hsz ((Below.refl _ _).drew) hR
  rw [hlen] at this
  simpa using this
end
end Go.Proofs.Ytbhhkaaidhapbaa
