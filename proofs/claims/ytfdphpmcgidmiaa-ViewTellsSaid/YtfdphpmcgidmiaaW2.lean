/- Contracts and plain facts, several texts of mine in one: RangesOw, RangesRt, QTail, NewVar, PlanR, Ref06, Ref06b, Ref06c, Ref07, Ref08, Ref09, Ref09b, Small09, Ref09c, Ref09d, Ref09e, Ref09f, Ref09g. No condition. -/
import Derived.Test.YtfdphpmcgidmiaaW1
import Derived.StillTail
import Derived.Lib.QuietBelow
import Derived.Test.YtfdphpmcgidmiaaMem2
import Derived.Deep.MidRow
import Derived.Deep.CutBlock

/- What Owlt answers of a right table: the one range that covers. No condition. -/
namespace Go.Proofs.Ytfdphpmcgidmiaa.Kr
open Go.ChangeShapes Go.WideShapes Go.ChangeAt Go.RowKit Go.Sort
set_option linter.unusedSimpArgs false
set_option linter.unusedVariables false
def befR (a b : Rg) : Prop := ltR a b ∧ (a.fr = b.fr → a.tn = b.tn → a.en ≤ b.st)
def covR (cf ct cs ce : Int) (x : Rg) : Bool := decide (x.fr = cf ∧ x.tn = ct ∧ x.st ≤ cs ∧ ce ≤ x.en)
/-- In order, none longer than nothing. -/
structure SortR (d : List Rg) : Prop where
  ord : d.Pairwise befR
  span : ∀ x ∈ d, x.st < x.en ∧ 0 ≤ x.ow
theorem SortR.filter {d : List Rg} (h : SortR d) (p : Rg → Bool) : SortR (d.filter p) :=
  ⟨h.ord.filter p, fun x hx => h.span x (List.mem_filter.1 hx).1⟩
theorem rightB_okR {d : List Rg} (h : rightB d = true) {i : Nat} (hi : i < d.length) : okR (gRg d i) = true := by
  have := (rightB_true.1 h).2 i hi
  unfold stepB at this
  simp at this
  exact this.1
theorem rightB_next {d : List Rg} (h : rightB d = true) {i : Nat} (hi : i + 1 < d.length) : befR (gRg d i) (gRg d (i + 1)) := by
  have h0 := (rightB_true.1 h).2 (i + 1) hi
  have h1 := okR_span (rightB_okR h hi)
  have h2 := okR_span (rightB_okR h (i := i) (by omega))
  unfold stepB at h0
  simp [overR] at h0
  obtain ⟨_, h3, h4⟩ := h0
  rcases cmpR_spec (gRg d i) (gRg d (i + 1)) with ⟨hl, e⟩ | ⟨_, _, _, e⟩ | ⟨_, e⟩
  · refine ⟨hl, fun e1 e2 => ?_⟩
    unfold ltR at hl
    omega
  · omega
  · omega
theorem befR_trans {a b c : Rg} (h1 : befR a b) (h2 : befR b c) (hb : b.st < b.en) : befR a c := by
  obtain ⟨l1, r1⟩ := h1
  obtain ⟨l2, r2⟩ := h2
  unfold ltR at l1 l2
  refine ⟨by unfold ltR; omega, fun e1 e2 => ?_⟩
  have := r1 (by omega) (by omega)
  have := r2 (by omega) (by omega)
  omega
theorem rightB_far {d : List Rg} (h : rightB d = true) {i : Nat} : ∀ k, i + 1 + k < d.length → befR (gRg d i) (gRg d (i + 1 + k))
  | 0, hk => rightB_next h hk
  | k + 1, hk => befR_trans (rightB_far h k (by omega)) (rightB_next h (i := i + 1 + k) (by omega)) (okR_span (rightB_okR h (by omega))).1
theorem gRg_elem {d : List Rg} {j : Nat} (h : j < d.length) : gRg d j = d[j] := by
  unfold gRg
  rw [List.getD_eq_getElem?_getD, List.getElem?_eq_getElem h]
  rfl
theorem sort_of_right {d : List Rg} (h : rightB d = true) : SortR d := by
  refine ⟨?_, fun x hx => ?_⟩
  · rw [List.pairwise_iff_getElem]
    intro i j hi hj hij
    have := rightB_far h (i := i) (j - i - 1) (by omega)
    rw [show i + 1 + (j - i - 1) = j from by omega] at this
    rw [gRg_elem hi, gRg_elem hj] at this
    exact this
  · obtain ⟨j, hj, rfl⟩ := mem_gRg hx
    exact ⟨(okR_span (rightB_okR h hj)).1, (okR_span (rightB_okR h hj)).2.1⟩
theorem SortR.at_ {d : List Rg} (h : SortR d) {i j : Nat} (hij : i < j) (hj : j < d.length) : befR (gRg d i) (gRg d j) := by
  rw [gRg_elem hj, gRg_elem (by omega)]
  exact List.pairwise_iff_getElem.1 h.ord i j (by omega) hj hij
theorem SortR.sp {d : List Rg} (h : SortR d) {j : Nat} (hj : j < d.length) : (gRg d j).st < (gRg d j).en ∧ 0 ≤ (gRg d j).ow := h.span _ (gRg_mem hj)
theorem waysI_spec (a : Rg) (cf ct : Int) : ((a.fr < cf ∨ a.fr = cf ∧ a.tn < ct) ∧ waysI a ⟨cf, ct, 0, 0, 0⟩ = -1) ∨ (a.fr = cf ∧ a.tn = ct ∧ waysI a ⟨cf, ct, 0, 0, 0⟩ = 0) ∨ ((cf < a.fr ∨ a.fr = cf ∧ ct < a.tn) ∧ waysI a ⟨cf, ct, 0, 0, 0⟩ = 1) := by
  unfold waysI
  rcases cmpI_spec a.fr cf with ⟨h1, e1⟩ | ⟨h1, e1⟩ | ⟨h1, e1⟩ <;> rcases cmpI_spec a.tn ct with ⟨h2, e2⟩ | ⟨h2, e2⟩ | ⟨h2, e2⟩ <;>
    simp only [e1, e2, orF] <;> simp <;> omega
theorem passP_iff {d : List Rg} {cf ct ce : Int} {i : Nat} : passP d cf ct ce i = true ↔ (cf < (gRg d i).fr ∨ (gRg d i).fr = cf ∧ ct < (gRg d i).tn) ∨ ((gRg d i).fr = cf ∧ (gRg d i).tn = ct ∧ ce ≤ (gRg d i).en) := by
  unfold passP
  rcases waysI_spec (gRg d i) cf ct with ⟨h1, e1⟩ | ⟨h1, h2, e1⟩ | ⟨h1, e1⟩ <;> rw [e1] <;> simp <;> omega
theorem passP_up {d : List Rg} (h : SortR d) {cf ct ce : Int} {i j : Nat} (hij : i ≤ j) (hj : j < d.length) (hp : passP d cf ct ce i = true) : passP d cf ct ce j = true := by
  rcases Nat.lt_or_eq_of_le hij with hij | rfl
  · rw [passP_iff] at hp ⊢
    obtain ⟨h1, h2⟩ := h.at_ hij hj
    have h3 := h.sp hj
    unfold ltR at h1
    by_cases e1 : (gRg d i).fr = (gRg d j).fr
    · by_cases e2 : (gRg d i).tn = (gRg d j).tn
      · have := h2 e1 e2
        omega
      · omega
    · omega
  · exact hp
/-- What a table of ranges tells of a contact: whom it covers, or none. -/
def Tells (d : List Rg) (cf ct cs ce o : Int) (b : Bool) : Prop :=
  (b = true ∧ ∃ x ∈ d, covR cf ct cs ce x = true ∧ o = x.ow) ∨ (b = false ∧ o = 0 ∧ ∀ x ∈ d, covR cf ct cs ce x = false)
theorem tells_of {d : List Rg} (h : SortR d) {cf ct cs ce : Int} {n i : Nat} {o : Int} {b : Bool} (hd : d.length = n) (hc : cs < ce) (ha : AskAt d cf ct ce n i) (ho : owR d cf ct cs n i = (o, b)) : Tells d cf ct cs ce o b := by
  obtain ⟨hi, h1, h2⟩ := ha
  unfold owR at ho
  by_cases hg : i = n ∨ waysI (gRg d i) ⟨cf, ct, 0, 0, 0⟩ ≠ 0 ∨ cs < (gRg d i).st
  · rw [if_pos hg] at ho
    injection ho with e1 e2
    refine .inr ⟨e2.symm, e1.symm, fun x hx => ?_⟩
    obtain ⟨j, hj, rfl⟩ := mem_gRg hx
    cases hcv : covR cf ct cs ce (gRg d j)
    · rfl
    · exfalso
      unfold covR at hcv
      rw [decide_eq_true_eq] at hcv
      obtain ⟨c1, c2, c3, c4⟩ := hcv
      have hpj : passP d cf ct ce j = true := passP_iff.2 (.inr ⟨c1, c2, c4⟩)
      have hij : i ≤ j := by
        rcases h1 with h1 | h1
        · omega
        · by_cases hlt : j < i
          · rw [passP_up h (by omega : j ≤ i - 1) (by omega) hpj] at h1
            cases h1
          · omega
      have hin : i < n := by omega
      have hpi : passP d cf ct ce i = true := by
        rcases h2 with h2 | h2
        · omega
        · exact h2
      rw [passP_iff] at hpi
      rcases Nat.lt_or_eq_of_le hij with hij | rfl
      · obtain ⟨b1, b2⟩ := h.at_ hij hj
        unfold ltR at b1
        by_cases e1 : (gRg d i).fr = (gRg d j).fr
        · by_cases e2 : (gRg d i).tn = (gRg d j).tn
          · have := b2 e1 e2
            omega
          · omega
        · omega
      · rcases waysI_spec (gRg d i) cf ct with ⟨g1, e1⟩ | ⟨g1, g2, e1⟩ | ⟨g1, e1⟩ <;> rw [e1] at hg <;> omega
  · rw [if_neg hg] at ho
    injection ho with e1 e2
    have hin : i < n := by omega
    have hw : waysI (gRg d i) ⟨cf, ct, 0, 0, 0⟩ = 0 := by
      by_cases e : waysI (gRg d i) ⟨cf, ct, 0, 0, 0⟩ = 0
      · exact e
      · exact absurd (.inr (.inl e)) hg
    have hpi : passP d cf ct ce i = true := by
      rcases h2 with h2 | h2
      · omega
      · exact h2
    rw [passP_iff] at hpi
    refine .inl ⟨e2.symm, gRg d i, gRg_mem (by omega), ?_, e1.symm⟩
    unfold covR
    rw [decide_eq_true_eq]
    rcases waysI_spec (gRg d i) cf ct with ⟨g1, e1⟩ | ⟨g1, g2, e1⟩ | ⟨g1, e1⟩ <;> omega
/-- One at most covers. -/
theorem cov_one {d : List Rg} (h : SortR d) {cf ct cs ce : Int} (hc : cs < ce) {i j : Nat} (hi : i < d.length) (hj : j < d.length) (h1 : covR cf ct cs ce (gRg d i) = true) (h2 : covR cf ct cs ce (gRg d j) = true) : i = j := by
  unfold covR at h1 h2
  rw [decide_eq_true_eq] at h1 h2
  rcases Nat.lt_trichotomy i j with hl | e | hl
  · have := (h.at_ hl hj).2 (by omega) (by omega)
    omega
  · exact e
  · have := (h.at_ hl hi).2 (by omega) (by omega)
    omega
theorem tells_same {d e : List Rg} (h : SortR d) {cf ct cs ce o o' : Int} {b b' : Bool} (hc : cs < ce) (hsub : ∀ x ∈ e, x ∈ d) (hcov : ∀ x ∈ d, covR cf ct cs ce x = true → x ∈ e) (h1 : Tells d cf ct cs ce o b) (h2 : Tells e cf ct cs ce o' b') : o = o' ∧ b = b' := by
  rcases h1 with ⟨rfl, x, hx, cx, rfl⟩ | ⟨rfl, rfl, hn⟩ <;> rcases h2 with ⟨rfl, y, hy, cy, rfl⟩ | ⟨rfl, rfl, hn'⟩
  · obtain ⟨i, hi, rfl⟩ := mem_gRg hx
    obtain ⟨j, hj, rfl⟩ := mem_gRg (hsub y hy)
    obtain rfl := cov_one h hc hi hj cx cy
    exact ⟨rfl, rfl⟩
  · rw [hn' x (hcov x hx cx)] at cx; cases cx
  · rw [hn y (hsub y hy)] at cy; cases cy
  · exact ⟨rfl, rfl⟩
end Go.Proofs.Ytfdphpmcgidmiaa.Kr

/- What is right stays right: a filter, a new owlt, one more. No condition. -/
namespace Go.Proofs.Ytfdphpmcgidmiaa.Kr
open Go.ChangeShapes Go.WideShapes Go.ChangeAt Go.RowKit Go.Sort
set_option linter.unusedSimpArgs false
set_option linter.unusedVariables false
theorem right_of {d : List Rg} (hn : d.length ≤ 4096) (hok : ∀ x ∈ d, okR x = true) (hs : d.Pairwise befR) : rightB d = true := by
  rw [rightB_true]
  refine ⟨hn, fun i hi => ?_⟩
  unfold stepB
  rw [hok _ (gRg_mem hi), Bool.true_and]
  by_cases h0 : i = 0
  · simp [h0]
  · have hb : befR (gRg d (i - 1)) (gRg d i) := by
      rw [gRg_elem hi, gRg_elem (by omega)]
      exact List.pairwise_iff_getElem.1 hs (i - 1) i (by omega) hi (by omega)
    obtain ⟨b1, b2⟩ := hb
    have hc : cmpR (gRg d (i - 1)) (gRg d i) < 0 := by
      rcases cmpR_spec (gRg d (i - 1)) (gRg d i) with ⟨_, e⟩ | ⟨e1, e2, e3, e⟩ | ⟨hl, e⟩
      · omega
      · unfold ltR at b1; omega
      · unfold ltR at b1 hl; omega
    have ho : overR (gRg d (i - 1)) (gRg d i) = false := by
      unfold overR
      rw [decide_eq_false_iff_not]
      rintro ⟨e1, e2, e3, e4⟩
      have := b2 e1 e2
      omega
    rw [ho]
    simp [hc]
theorem right_ok {d : List Rg} (h : rightB d = true) : ∀ x ∈ d, okR x = true := fun x hx => by
  obtain ⟨j, hj, rfl⟩ := mem_gRg hx
  exact rightB_okR h hj
theorem right_filter {d : List Rg} (h : rightB d = true) (p : Rg → Bool) : rightB (d.filter p) = true :=
  right_of (Nat.le_trans (List.length_filter_le _ _) (rightB_true.1 h).1) (fun x hx => right_ok h x (List.mem_filter.1 hx).1) ((sort_of_right h).ord.filter p)
theorem fresh_over {d : List Rg} {r : Rg} (hm : mayF d r = 0) : d.length < 4096 ∧ ∀ y ∈ d, overR y r = false := by
  unfold mayF at hm
  split at hm
  · cases hm
  · split at hm
    · cases hm
    · split at hm
      · cases hm
      · rename_i h1 h2 h3
        refine ⟨by omega, fun y hy => ?_⟩
        cases e : overR y r
        · rfl
        · exact absurd (List.any_eq_true.2 ⟨y, hy, e⟩) h3
theorem ltR_trans {a b c : Rg} (h1 : ltR a b) (h2 : ltR b c) : ltR a c := by unfold ltR at *; omega
theorem right_ins {d : List Rg} {r : Rg} {i : Nat} (h : rightB d = true) (hm : mayF d r = 0) (hi : i ≤ d.length) (h1 : i = 0 ∨ cmpR (gRg d (i - 1)) r < 0) (h2 : i = d.length ∨ 0 ≤ cmpR (gRg d i) r) : rightB (insR d i r) = true := by
  obtain ⟨hok, hfr⟩ := fresh_of h hm
  obtain ⟨hlen, hov⟩ := fresh_over hm
  have hs := sort_of_right h
  have hrs := okR_span hok
  have hbef : ∀ a ∈ d.take i, befR a r := fun a ha => by
    obtain ⟨j, hj, rfl⟩ := List.mem_take_iff_getElem.1 ha
    have hjd : j < d.length := by omega
    have hji : j < i := by omega
    have hl : ltR (gRg d (i - 1)) r := by
      rcases h1 with h1 | h1
      · omega
      · rcases cmpR_spec (gRg d (i - 1)) r with ⟨hl, _⟩ | ⟨_, _, _, e⟩ | ⟨_, e⟩
        · exact hl
        · omega
        · omega
    have hl2 : ltR (gRg d j) r := by
      by_cases e : j = i - 1
      · rw [e]; exact hl
      · exact ltR_trans (hs.at_ (by omega : j < i - 1) (by omega)).1 hl
    rw [← gRg_elem hjd]
    refine ⟨hl2, fun e1 e2 => ?_⟩
    have ho := hov _ (gRg_mem hjd)
    unfold overR at ho
    rw [decide_eq_false_iff_not] at ho
    unfold ltR at hl2
    by_cases hx : (gRg d j).en ≤ r.st
    · exact hx
    · exact absurd ⟨e1, e2, by omega, by omega⟩ ho
  have haft : ∀ b ∈ d.drop i, befR r b := fun b hb => by
    obtain ⟨j, hj, rfl⟩ := List.mem_drop_iff_getElem.1 hb
    have hjd : i + j < d.length := by omega
    have hl : ltR r (gRg d i) := by
      rcases h2 with h2 | h2
      · omega
      · rcases cmpR_spec (gRg d i) r with ⟨_, e⟩ | ⟨e1, e2, e3, e⟩ | ⟨hl, _⟩
        · omega
        · have := hfr _ (gRg_mem (by omega : i < d.length))
          unfold sameR at this
          rw [decide_eq_false_iff_not] at this
          exact absurd ⟨e1, e2, e3⟩ this
        · exact hl
    have hl2 : ltR r (gRg d (i + j)) := by
      by_cases e : j = 0
      · subst e; exact hl
      · exact ltR_trans hl (hs.at_ (by omega : i < i + j) hjd).1
    rw [← gRg_elem hjd]
    refine ⟨hl2, fun e1 e2 => ?_⟩
    have ho := hov _ (gRg_mem hjd)
    have hsp := hs.sp hjd
    unfold overR at ho
    rw [decide_eq_false_iff_not] at ho
    unfold ltR at hl2
    by_cases hx : r.en ≤ (gRg d (i + j)).st
    · exact hx
    · exact absurd ⟨e1.symm, e2.symm, by omega, by omega⟩ ho
  refine right_of (by rw [insR_length r hi]; omega) (fun x hx => ?_) ?_
  · unfold insR at hx
    simp only [List.mem_append, List.mem_singleton] at hx
    rcases hx with (hx | rfl) | hx
    · exact right_ok h x (List.mem_of_mem_take hx)
    · exact hok
    · exact right_ok h x (List.mem_of_mem_drop hx)
  · unfold insR
    have hp := hs.ord
    rw [← List.take_append_drop i d, List.pairwise_append] at hp
    rw [List.append_assoc, List.pairwise_append]
    refine ⟨hp.1, ?_, fun a ha b hb => ?_⟩
    · rw [List.singleton_append, List.pairwise_cons]
      exact ⟨haft, hp.2.1⟩
    · rw [List.singleton_append, List.mem_cons] at hb
      rcases hb with rfl | hb
      · exact hbef a ha
      · exact hp.2.2 a ha b hb
theorem gRg_set {d : List Rg} {q j : Nat} (x : Rg) (hj : j < d.length) : gRg (d.set q x) j = if q = j then x else gRg d j := by
  rw [gRg_elem (by rw [List.length_set]; exact hj), List.getElem_set, gRg_elem hj]
theorem okR_ow {x : Rg} {o : Int} (h : okR x = true) (h0 : 0 ≤ o) (h1 : o ≤ 2147483647) : okR (withOw x o) = true := by
  unfold okR rangeB at h ⊢
  simp only [withOw]
  simp only [Bool.and_eq_true] at h ⊢
  refine ⟨⟨h.1.1, h.1.2⟩, ?_⟩
  unfold inB
  simp
  omega
theorem right_set {d : List Rg} {q : Nat} {o : Int} (h : rightB d = true) (hq : q < d.length) (h0 : 0 ≤ o) (h1 : o ≤ 2147483647) : rightB (d.set q (withOw (gRg d q) o)) = true := by
  have hs := sort_of_right h
  refine right_of (by rw [List.length_set]; exact (rightB_true.1 h).1) (fun x hx => ?_) ?_
  · obtain ⟨j, hj, rfl⟩ := mem_gRg hx
    rw [List.length_set] at hj
    rw [gRg_set _ hj]
    split
    · exact okR_ow (rightB_okR h hq) h0 h1
    · exact rightB_okR h hj
  · rw [List.pairwise_iff_getElem]
    intro i j hi hj hij
    rw [List.length_set] at hi hj
    have hb := hs.at_ hij hj
    have hi2 := gRg_set (d := d) (q := q) (withOw (gRg d q) o) hi
    have hj2 := gRg_set (d := d) (q := q) (withOw (gRg d q) o) hj
    rw [gRg_elem (by rw [List.length_set]; exact hi)] at hi2
    rw [gRg_elem (by rw [List.length_set]; exact hj)] at hj2
    rw [hi2, hj2]
    by_cases e1 : q = i
    · subst e1
      rw [if_pos rfl, if_neg (by omega)]
      exact hb
    · rw [if_neg e1]
      by_cases e2 : q = j
      · subst e2
        rw [if_pos rfl]
        exact hb
      · rw [if_neg e2]
        exact hb
end Go.Proofs.Ytfdphpmcgidmiaa.Kr

/- A region that draws its order: its first n operations are quiet in a class of worlds (one walk serves every order), all that follows is forced in the order of the text. No condition. -/
namespace Go.Proofs.Ytfdphpmcgidmiaa
open Go.Sort Go.RowKit
set_option linter.unusedSimpArgs false
set_option linter.unusedVariables false
section
variable {P : Program} {ops : Array Oper} {md : Region.Mode} {C : World → Prop}

def wpAnyLQ (P : Program) (md : Region.Mode) (ops : Array Oper) (C : World → Prop) (n : Nat) (L : Array Bool → Act → Prop) : Nat → Array Bool → Act → Prop
  | 0, listed, a => L listed a
  | f + 1, listed, a =>
    Region.ready md ops listed ≠ [] ∧ ∀ i ∈ Region.ready md ops listed, i < n ∧ qOp P ops C i (wpAnyLQ P md ops C n L f (listed.setIfInBounds i true)) a

theorem wpAny_of_headQ {n g : Nat} {L : Array Bool → Act → Prop} {Q' : Exit → Act → World → Prop} (hL : ∀ listed a w, C w → L listed a → wpAny P md ops Q' g listed a w) :
    ∀ (f : Nat) (listed : Array Bool) (a : Act) (w : World), C w → wpAnyLQ P md ops C n L f listed a → wpAny P md ops Q' (f + g) listed a w
  | 0, listed, a, w, hw, h => by rw [Nat.zero_add]; exact hL _ _ _ hw h
  | f + 1, listed, a, w, hw, h => by
    rw [show f + 1 + g = (f + g) + 1 by omega]
    exact ⟨fun h0 => absurd h0 h.1, fun i hi => wpOp_of_qOp hw (fun a' w' hw' h' => wpAny_of_headQ hL f _ a' w' hw' h') (h.2 i hi).2⟩

theorem wpAnyLQ_first {n i : Nat} {oi : Oper} {v : Value} {L : Array Bool → Act → Prop} (hi : ops[i]? = some oi) (hsel : ∀ (j : Nat) (o : Oper) cs b, ops[j]? = some o → o.op ≠ .select cs b)
    (hs : Region.sinkB md ops n = true) (hc : Region.chainB md ops n = true) (hn : n < ops.size) (hin : i < n)
    (hdone : ∀ listed a, L listed a → ∀ j ∈ Region.ready md ops listed, n ≤ j) :
    ∀ (f : Nat) (listed : Array Bool) (a : Act), HeadInv md ops n listed →
      (∀ j oj, ops[j]? = some oj → j ≠ i → listed.getD j true = false → (∀ e ∈ oj.after, Region.binds md e = true → e.on ≠ i) → oi.apart ops oj = true) →
      i ∈ Region.ready md ops listed → YieldsIn P ops C oi v a →
      wpAnyLQ P md ops C n L f (listed.setIfInBounds i true) (a.put oi.dst v) → wpAnyLQ P md ops C n L (f + 1) listed a := by
  intro f
  induction f with
  | zero =>
    intro listed a inv _ hr hy H
    have hun := (mem_ready.1 hr).1
    refine ⟨fun h => (by rw [h] at hr; cases hr), fun j hj => ?_⟩
    have hjn : j < n := by
      rcases Nat.lt_or_ge j n with h | h
      · exact h
      · exact absurd hj (tail_waits hs hc hn inv _ i rfl hin hun j h)
    refine ⟨hjn, ?_⟩
    by_cases hji : j = i
    · subst hji; exact hy.qOp hi H
    · have := hdone _ _ H j (ready_mono hj hji)
      omega
  | succ f ih =>
    intro listed a inv hfree hr hy H
    have hun := (mem_ready.1 hr).1
    refine ⟨fun h => (by rw [h] at hr; cases hr), fun j hj => ?_⟩
    have hjn : j < n := by
      rcases Nat.lt_or_ge j n with h | h
      · exact h
      · exact absurd hj (tail_waits hs hc hn inv _ i rfl hin hun j h)
    refine ⟨hjn, ?_⟩
    by_cases hji : j = i
    · subst hji; exact hy.qOp hi H
    · have h1 := (H.2 j (ready_mono hj hji)).2
      obtain ⟨hjun, oj, hoj, hall⟩ := mem_ready.1 hj
      have hnot : ∀ e ∈ oj.after, Region.binds md e = true → e.on ≠ i := fun e he hb heq => by
        have h1 := hall e he hb
        rw [heq, getD_both hun] at h1
        cases h1
      have h2 := qOp_put hoj (hfree j oj hoj hji hjun hnot) (fun cs b => hsel i oi cs b hi) (fun cs b => hsel j oj cs b hoj) hy h1
      have hfree' : ∀ k ok, ops[k]? = some ok → k ≠ i → (listed.setIfInBounds j true).getD k true = false →
          (∀ e ∈ ok.after, Region.binds md e = true → e.on ≠ i) → oi.apart ops ok = true := fun k ok hk hki hun hno => by
        refine hfree k ok hk hki ?_ hno
        by_cases hjk : j = k
        · subst hjk; exact hjun
        · rw [getD_set_ne true hjk] at hun; exact hun
      refine qOp_mono (fun a' h3 => ih (listed.setIfInBounds j true) a' (inv.set hj hjn) hfree' (ready_mono hr (Ne.symm hji)) h3.1 ?_) h2
      rw [Array.setIfInBounds_comm _ _ hji]
      exact h3.2

theorem wpAnyLQ_lex {n g : Nat} {Lq : Act → Prop} (hsel : Region.noSelect ops = true) (hs : Region.sinkB md ops n = true) (hc : Region.chainB md ops n = true) (hn : n < ops.size) :
    ∀ (l : List Oper) (k : Nat) (listed : Array Bool) (a : Act), (∀ j, j < l.length → l[j]? = ops[k + j]?) → k + l.length = n → HeadInv md ops n listed →
    Region.lexHead md ops g l.length k listed = true → wpQuiet P ops C Lq l a →
    wpAnyLQ P md ops C n (fun listed' a' => Region.seqB md ops g n listed' = true ∧ Lq a') l.length listed a
  | [], k, listed, a, _, hk, _, hB, h => by
    have : k = n := by simpa using hk
    subst this
    exact ⟨by simpa [Region.lexHead] using hB, h⟩
  | o :: l, k, listed, a, hl, hk, inv, hB, h => by
    have h0 : ops[k]? = some o := by simpa using (hl 0 (by simp)).symm
    simp only [List.length_cons, Region.lexHead, Bool.and_eq_true] at hB
    obtain ⟨⟨hr, hf⟩, hB'⟩ := hB
    have hkn : k < n := by simp only [List.length_cons] at hk; omega
    have hr' : k ∈ Region.ready md ops listed := by simpa using hr
    have hst : qOp P ops C k (wpQuiet P ops C Lq l) a := by unfold qOp; simp only [h0]; exact h
    obtain ⟨v, hy, hK⟩ := yieldsIn_of_qOp h0 hst
    exact wpAnyLQ_first h0 (Region.noSelect_spec hsel) hs hc hn hkn (fun listed' a' hL => seqB_ready hL.1) l.length listed a inv (Region.free_spec h0 hf) hr' hy
      (wpAnyLQ_lex hsel hs hc hn l (k + 1) _ _ (fun j hj => by have := hl (j + 1) (by simp; omega); simpa [Nat.add_assoc, Nat.add_comm 1 j] using this) (by simp only [List.length_cons] at hk; omega) (inv.set hr' hkn) hB' hK)

/-! A gate: the first n operations are quiet, the last of them waits for all the others, and whatever follows waits for it. -/
def gateB (md : Region.Mode) (ops : Array Oper) (n : Nat) : Bool :=
  (List.range ops.size).all fun t => decide (t < n) || (List.range t).any fun j => decide (n ≤ j + 1) && Region.waitsFor md ops t j
def lexFin : Nat → Nat → Array Bool → Array Bool
  | 0, _, listed => listed
  | f + 1, k, listed => lexFin f (k + 1) (listed.setIfInBounds k true)
def lexTo (md : Region.Mode) (ops : Array Oper) : Nat → Nat → Array Bool → Bool
  | 0, _, _ => true
  | f + 1, k, listed => (Region.ready md ops listed).contains k && Region.free md ops listed k && lexTo md ops f (k + 1) (listed.setIfInBounds k true)
def gated (md : Region.Mode) (ops : Array Oper) (m : Nat) : Bool :=
  Region.noSelect ops && decide (m + 1 ≤ ops.size) && Region.sinkB md ops m && gateB md ops (m + 1) && lexTo md ops (m + 1) 0 (Array.replicate ops.size false) &&
    (Region.ready md ops (lexFin (m + 1) 0 (Array.replicate ops.size false))).all fun j => decide (m + 1 ≤ j)

theorem head_all {m n : Nat} {listed : Array Bool} (hs : Region.sinkB md ops m = true) (inv : HeadInv md ops n listed) (hm : listed.getD m false = true) :
    ∀ (d i : Nat), m - i = d → i ≤ m → listed.getD i false = true := by
  intro d
  induction d using Nat.strongRecOn with
  | _ d ih =>
    intro i hd hi
    by_cases e : i = m
    · subst e; exact hm
    · have h1 := List.all_eq_true.1 hs i (List.mem_range.2 (by omega))
      obtain ⟨j, hj, hj2⟩ := List.any_eq_true.1 h1
      simp only [Bool.and_eq_true, decide_eq_true_eq] at hj2
      obtain ⟨oj, hoj, e', he, hb, hon⟩ := Region.waitsFor_spec hj2.2
      have hjle : j ≤ m := by have := List.mem_range.1 hj; omega
      have hl := ih (m - j) (by omega) j rfl hjle
      have h2 := inv.closed j oj hoj hl e' he hb
      rwa [hon] at h2

theorem gate_waits {m : Nat} {listed : Array Bool} (hs : Region.sinkB md ops m = true) (hg : gateB md ops (m + 1) = true) (inv : HeadInv md ops (m + 1) listed) :
    ∀ (i : Nat), i < m + 1 → listed.getD i true = false → ∀ t, m + 1 ≤ t → t ∉ Region.ready md ops listed := by
  intro i hi hun t ht hr
  obtain ⟨_, ot, hot, hall⟩ := mem_ready.1 hr
  have htlt : t < ops.size := (Array.getElem?_eq_some_iff.1 hot).1
  have h1 := List.all_eq_true.1 hg t (List.mem_range.2 htlt)
  simp only [Bool.or_eq_true, decide_eq_true_eq] at h1
  rcases h1 with h1 | h1
  · omega
  · obtain ⟨j, hj, hj2⟩ := List.any_eq_true.1 h1
    simp only [Bool.and_eq_true, decide_eq_true_eq] at hj2
    obtain ⟨o', ho', e, he, hb, hon⟩ := Region.waitsFor_spec hj2.2
    have : o' = ot := Option.some.inj (ho'.symm.trans hot)
    subst this
    have h2 := hall e he hb
    rw [hon] at h2
    have hjt : j < t := List.mem_range.1 hj
    by_cases hjm : j = m
    · subst hjm
      have h3 := head_all hs inv h2 (j - i) i rfl (by omega)
      rw [getD_both hun] at h3
      cases h3
    · rw [getD_both (inv.tail j (by omega) (by omega))] at h2
      cases h2

theorem wpAnyLQ_gate {n i : Nat} {oi : Oper} {v : Value} {L : Array Bool → Act → Prop} (hi : ops[i]? = some oi) (hsel : ∀ (j : Nat) (o : Oper) cs b, ops[j]? = some o → o.op ≠ .select cs b)
    (hwait : ∀ listed, HeadInv md ops n listed → ∀ i, i < n → listed.getD i true = false → ∀ t, n ≤ t → t ∉ Region.ready md ops listed) (hin : i < n)
    (hdone : ∀ listed a, L listed a → ∀ j ∈ Region.ready md ops listed, n ≤ j) :
    ∀ (f : Nat) (listed : Array Bool) (a : Act), HeadInv md ops (n) listed →
      (∀ j oj, ops[j]? = some oj → j ≠ i → listed.getD j true = false → (∀ e ∈ oj.after, Region.binds md e = true → e.on ≠ i) → oi.apart ops oj = true) →
      i ∈ Region.ready md ops listed → YieldsIn P ops C oi v a →
      wpAnyLQ P md ops C (n) L f (listed.setIfInBounds i true) (a.put oi.dst v) → wpAnyLQ P md ops C (n) L (f + 1) listed a := by
  intro f
  induction f with
  | zero =>
    intro listed a inv _ hr hy H
    have hun := (mem_ready.1 hr).1
    refine ⟨fun h => (by rw [h] at hr; cases hr), fun j hj => ?_⟩
    have hjn : j < n := by
      rcases Nat.lt_or_ge j (n) with h | h
      · exact h
      · exact absurd hj (hwait _ inv i hin hun j h)
    refine ⟨hjn, ?_⟩
    by_cases hji : j = i
    · subst hji; exact hy.qOp hi H
    · have := hdone _ _ H j (ready_mono hj hji)
      omega
  | succ f ih =>
    intro listed a inv hfree hr hy H
    have hun := (mem_ready.1 hr).1
    refine ⟨fun h => (by rw [h] at hr; cases hr), fun j hj => ?_⟩
    have hjn : j < n := by
      rcases Nat.lt_or_ge j (n) with h | h
      · exact h
      · exact absurd hj (hwait _ inv i hin hun j h)
    refine ⟨hjn, ?_⟩
    by_cases hji : j = i
    · subst hji; exact hy.qOp hi H
    · have h1 := (H.2 j (ready_mono hj hji)).2
      obtain ⟨hjun, oj, hoj, hall⟩ := mem_ready.1 hj
      have hnot : ∀ e ∈ oj.after, Region.binds md e = true → e.on ≠ i := fun e he hb heq => by
        have h1 := hall e he hb
        rw [heq, getD_both hun] at h1
        cases h1
      have h2 := qOp_put hoj (hfree j oj hoj hji hjun hnot) (fun cs b => hsel i oi cs b hi) (fun cs b => hsel j oj cs b hoj) hy h1
      have hfree' : ∀ k ok, ops[k]? = some ok → k ≠ i → (listed.setIfInBounds j true).getD k true = false →
          (∀ e ∈ ok.after, Region.binds md e = true → e.on ≠ i) → oi.apart ops ok = true := fun k ok hk hki hun hno => by
        refine hfree k ok hk hki ?_ hno
        by_cases hjk : j = k
        · subst hjk; exact hjun
        · rw [getD_set_ne true hjk] at hun; exact hun
      refine qOp_mono (fun a' h3 => ih (listed.setIfInBounds j true) a' (inv.set hj hjn) hfree' (ready_mono hr (Ne.symm hji)) h3.1 ?_) h2
      rw [Array.setIfInBounds_comm _ _ hji]
      exact h3.2

theorem wpAnyLQ_lexg {n : Nat} {Lq : Act → Prop} {fin : Array Bool} (hsel : Region.noSelect ops = true) (hwait : ∀ listed, HeadInv md ops n listed → ∀ i, i < n → listed.getD i true = false → ∀ t, n ≤ t → t ∉ Region.ready md ops listed)
    (hfin : (Region.ready md ops fin).all (fun j => decide (n ≤ j)) = true) :
    ∀ (l : List Oper) (k : Nat) (listed : Array Bool) (a : Act), (∀ j, j < l.length → l[j]? = ops[k + j]?) → k + l.length = n → HeadInv md ops (n) listed →
    lexTo md ops l.length k listed = true → lexFin l.length k listed = fin → wpQuiet P ops C Lq l a →
    wpAnyLQ P md ops C (n) (fun listed' a' => listed' = fin ∧ Lq a') l.length listed a
  | [], k, listed, a, _, _, _, _, hf, h => ⟨hf, h⟩
  | o :: l, k, listed, a, hl, hk, inv, hB, hf, h => by
    have h0 : ops[k]? = some o := by simpa using (hl 0 (by simp)).symm
    simp only [List.length_cons, lexTo, Bool.and_eq_true] at hB
    obtain ⟨⟨hr, hfr⟩, hB'⟩ := hB
    have hkn : k < n := by simp only [List.length_cons] at hk; omega
    have hr' : k ∈ Region.ready md ops listed := by simpa using hr
    have hst : qOp P ops C k (wpQuiet P ops C Lq l) a := by unfold qOp; simp only [h0]; exact h
    obtain ⟨v, hy, hK⟩ := yieldsIn_of_qOp h0 hst
    exact wpAnyLQ_gate h0 (Region.noSelect_spec hsel) hwait hkn (fun listed' a' hL j hj => by
        rw [hL.1] at hj
        have := List.all_eq_true.1 hfin j hj
        simpa using this) l.length listed a inv (Region.free_spec h0 hfr) hr' hy
      (wpAnyLQ_lexg hsel hwait hfin l (k + 1) _ _ (fun j hj => by have := hl (j + 1) (by simp; omega); simpa [Nat.add_assoc, Nat.add_comm 1 j] using this) (by simp only [List.length_cons] at hk; omega) (inv.set hr' hkn) hB' hf hK)

/-- The first m + 1 operations in one quiet walk; what follows in whatever order, from there on. -/
theorem wp_region_gate {id : Nat} {Q : Exit → Act → World → Prop} {a : Act} {w : World} {l : List Oper} (m : Nat) (hm : P.follows .mixedOrders = true) (hB : gated .any l.toArray m = true)
    (h : wpQuiet P l.toArray (fun w' => ∃ p : Regrown, w' = grow (redrawn w p.d) p.os) (fun a' => ∀ w', (∃ p : Regrown, w' = grow (redrawn w p.d) p.os) → wpAny P .any l.toArray Q (l.length - (m + 1)) (lexFin (m + 1) 0 (Array.replicate l.length false)) a' w') (l.take (m + 1)) a) : (Code.region id l.toArray true).wp P Q a w := by
  simp only [gated, Bool.and_eq_true, decide_eq_true_eq] at hB
  obtain ⟨⟨⟨⟨⟨hsel, hn⟩, hs⟩, hg⟩, hlex⟩, hfin⟩ := hB
  have hn' : m + 1 ≤ l.length := by simpa using hn
  have htl : (l.take (m + 1)).length = m + 1 := by simp; omega
  have hsz : l.toArray.size = l.length := by simp
  rw [hsz] at hlex hfin
  have inv0 : HeadInv .any l.toArray (m + 1) (Array.replicate l.length false) :=
    ⟨by simp, fun j oj _ hl => (by rw [getD_replicate_false] at hl; cases hl), fun t _ ht => getD_in (by simpa using ht) (getD_replicate_false _ _)⟩
  have H := wpAnyLQ_lexg (C := fun w' => ∃ p : Regrown, w' = grow (redrawn w p.d) p.os) (md := .any) (fin := lexFin (m + 1) 0 (Array.replicate l.length false)) hsel (fun _ inv => gate_waits hs hg inv) hfin (l.take (m + 1)) 0 _ a (fun j hj => by
    have hj' : j < m + 1 := by rw [htl] at hj; exact hj
    simp [hj']) (by simpa using htl) inv0 (by rw [htl]; exact hlex) (by rw [htl]) h
  refine wp_region_any hm ?_
  have := wpAny_of_headQ (C := fun w' => ∃ p : Regrown, w' = grow (redrawn w p.d) p.os) (Q' := Q) (g := l.length - (m + 1)) (fun listed a' w' hw' hL => by
    rw [hL.1]
    exact hL.2 w' hw') _ _ _ w.drew ⟨⟨w.drawn + 1, #[]⟩, by rw [grow_empty]; rfl⟩ H
  rw [htl, show m + 1 + (l.length - (m + 1)) = l.length by omega] at this
  simpa using this

/-! A call in the middle: n quiet operations ahead of it, all that follows leaves the world alone. -/
def rootB (md : Region.Mode) (ops : Array Oper) (n : Nat) : Bool :=
  (List.range ops.size).all fun t => decide (t ≤ n) || (List.range t).any fun j => decide (n ≤ j) && Region.waitsFor md ops t j
def midB (md : Region.Mode) (ops : Array Oper) (n : Nat) : Bool :=
  Region.noSelect ops && decide (n < ops.size) && Region.sinkB md ops n && rootB md ops n && lexTo md ops n 0 (Array.replicate ops.size false) &&
    decide (Region.ready md ops (lexFin n 0 (Array.replicate ops.size false)) = [n]) && Region.lexFrom md ops (ops.size - (n + 1)) (n + 1) ((lexFin n 0 (Array.replicate ops.size false)).setIfInBounds n true)

theorem root_waits {n : Nat} {listed : Array Bool} (hs : Region.sinkB md ops n = true) (hg : rootB md ops n = true) (inv : HeadInv md ops n listed) :
    ∀ (i : Nat), i < n → listed.getD i true = false → ∀ t, n ≤ t → t ∉ Region.ready md ops listed := by
  intro i hi hun t ht hr
  obtain ⟨_, ot, hot, hall⟩ := mem_ready.1 hr
  have htlt : t < ops.size := (Array.getElem?_eq_some_iff.1 hot).1
  have h1 := List.all_eq_true.1 hg t (List.mem_range.2 htlt)
  simp only [Bool.or_eq_true, decide_eq_true_eq] at h1
  rcases h1 with h1 | h1
  · have htn : t = n := by omega
    subst htn
    have key : ∀ (d i : Nat), t - i = d → i < t → listed.getD i false = true := by
      intro d
      induction d using Nat.strongRecOn with
      | _ d ih =>
        intro i hd hi
        have h2 := List.all_eq_true.1 hs i (List.mem_range.2 hi)
        obtain ⟨j, hj, hj2⟩ := List.any_eq_true.1 h2
        simp only [Bool.and_eq_true, decide_eq_true_eq] at hj2
        obtain ⟨oj, hoj, e', he, hb, hon⟩ := Region.waitsFor_spec hj2.2
        have hjle : j ≤ t := by have := List.mem_range.1 hj; omega
        by_cases hjt : j = t
        · subst hjt
          have : oj = ot := Option.some.inj (hoj.symm.trans hot)
          subst this
          have h3 := hall e' he hb
          rwa [hon] at h3
        · have hl := ih (t - j) (by omega) j rfl (by omega)
          have h3 := inv.closed j oj hoj hl e' he hb
          rwa [hon] at h3
    have h4 := key _ i rfl hi
    rw [getD_both hun] at h4
    cases h4
  · obtain ⟨j, hj, hj2⟩ := List.any_eq_true.1 h1
    simp only [Bool.and_eq_true, decide_eq_true_eq] at hj2
    obtain ⟨o', ho', e, he, hb, hon⟩ := Region.waitsFor_spec hj2.2
    have : o' = ot := Option.some.inj (ho'.symm.trans hot)
    subst this
    have h2 := hall e he hb
    have hjt : j < t := List.mem_range.1 hj
    rw [hon, getD_both (inv.tail j hj2.1 (by omega))] at h2
    cases h2

theorem wpOp_of {Q : Exit → Act → World → Prop} {i : Nat} {o : Oper} {K : Act → World → Prop} {a : Act} {w : World} (ho : ops[i]? = some o)
    (h : if Region.wanted o (yielded ops a.tmps) = true then Oper.wp P o a w K Q else K (a.put o.dst undef) w) : wpOp P ops Q i K a w := by
  unfold wpOp
  simp only [ho]
  split
  · rename_i hw; simp only [hw, if_true] at h; exact .inl h
  · rename_i hw; simp only [hw] at h; exact h

theorem wp_region_call {id : Nat} {Q : Exit → Act → World → Prop} {a : Act} {w : World} {l : List Oper} (n : Nat) (hm : P.follows .mixedOrders = true) (hB : midB .any l.toArray n = true)
    (h : wpQuiet P l.toArray (fun w' => ∃ p : Regrown, w' = grow (redrawn w p.d) p.os) (fun a' => ∀ w', (∃ p : Regrown, w' = grow (redrawn w p.d) p.os) →
      ∀ K : Act → World → Prop, (∀ a'' w'', wpStill P l.toArray w'' (fun a3 => Q .normal a3 w'') (l.drop (n + 1)) a'' → K a'' w'') → wpOp P l.toArray Q n K a' w') (l.take n) a) : (Code.region id l.toArray true).wp P Q a w := by
  simp only [midB, Bool.and_eq_true, decide_eq_true_eq] at hB
  obtain ⟨⟨⟨⟨⟨⟨hsel, hn⟩, hs⟩, hg⟩, hlex⟩, hfin⟩, hrest⟩ := hB
  have hn' : n < l.length := by simpa using hn
  have htl : (l.take n).length = n := by simp; omega
  have hdl : (l.drop (n + 1)).length = l.length - (n + 1) := by simp
  have hsz : l.toArray.size = l.length := by simp
  rw [hsz] at hlex hfin hrest
  have inv0 : HeadInv .any l.toArray n (Array.replicate l.length false) :=
    ⟨by simp, fun j oj _ hl => (by rw [getD_replicate_false] at hl; cases hl), fun t _ ht => getD_in (by simpa using ht) (getD_replicate_false _ _)⟩
  have H := wpAnyLQ_lexg (C := fun w' => ∃ p : Regrown, w' = grow (redrawn w p.d) p.os) (md := .any) (fin := lexFin n 0 (Array.replicate l.length false)) hsel (fun _ inv => root_waits hs hg inv) (by rw [hfin]; simp) (l.take n) 0 _ a (fun j hj => by
    have hj' : j < n := by rw [htl] at hj; exact hj
    simp [hj']) (by simpa using htl) inv0 (by rw [htl]; exact hlex) (by rw [htl]) h
  refine wp_region_any hm ?_
  have := wpAny_of_headQ (C := fun w' => ∃ p : Regrown, w' = grow (redrawn w p.d) p.os) (Q' := Q) (g := (l.length - (n + 1)) + 1) (fun listed a' w' hw' hL => by
    obtain ⟨rfl, hL⟩ := hL
    refine ⟨fun h0 => (by rw [hfin] at h0; cases h0), fun i hi => ?_⟩
    rw [hfin] at hi
    have hin : i = n := by simpa using hi
    subst hin
    refine hL w' hw' _ (fun a'' w'' hst => ?_)
    have hS := wpAnyS_lex (md := .any) (w := w'') hsel (l.drop (i + 1)) (i + 1) ((lexFin i 0 (Array.replicate l.length false)).setIfInBounds i true) a'' (fun j => by simp [List.getElem?_drop]) (by rw [hdl]; exact hrest) hst
    rw [hdl] at hS
    exact wpAny_of_still (Q' := Q) (fun _ h => h) _ _ _ hS) _ _ _ w.drew ⟨⟨w.drawn + 1, #[]⟩, by rw [grow_empty]; rfl⟩ H
  rw [htl, show n + ((l.length - (n + 1)) + 1) = l.length by omega] at this
  simpa using this

/-- what is forced, by its numbers -/
def idxB (md : Region.Mode) (ops : Array Oper) : List Nat → Array Bool → Bool
  | [], listed => (Region.ready md ops listed).isEmpty
  | k :: ks, listed => decide (Region.ready md ops listed = [k]) && idxB md ops ks (listed.setIfInBounds k true)
def pickL (ks : List Nat) (l : List Oper) : List Oper := ks.flatMap fun k => (l.drop k).take 1
theorem wpAny_of_idx {Q' : Exit → Act → World → Prop} {l : List Oper} : ∀ (ks : List Nat) (listed : Array Bool) (a : Act) (w : World),
    idxB md l.toArray ks listed = true → wpList P l.toArray Q' (pickL ks l) a w → wpAny P md l.toArray Q' ks.length listed a w
  | [], _, _, _, hB, h => ⟨by simpa [idxB] using hB, h⟩
  | k :: ks, listed, a, w, hB, h => by
    simp only [idxB, Bool.and_eq_true, decide_eq_true_eq] at hB
    have hk : k ∈ Region.ready md l.toArray listed := by rw [hB.1]; simp
    obtain ⟨_, o, ho, _⟩ := mem_ready.1 hk
    have ho' : l[k]? = some o := by simpa using ho
    have hp : pickL (k :: ks) l = o :: pickL ks l := by
      have hkl : k < l.length := (List.getElem?_eq_some_iff.1 ho').1
      have e : (l.drop k).take 1 = [o] := by
        rw [List.drop_eq_getElem_cons hkl]
        have := (List.getElem?_eq_some_iff.1 ho').2
        simp [this]
      simp [pickL, e]
    rw [hp] at h
    refine ⟨fun h1 => (by rw [hB.1] at h1; cases h1), fun i hi => ?_⟩
    rw [hB.1] at hi
    have hik : i = k := by simpa using hi
    subst hik
    have hw : wpOp P l.toArray Q' i (wpList P l.toArray Q' (pickL ks l)) a w := by unfold wpOp; simp only [ho]; exact h
    exact wpOp_mono (fun a' w' h' => wpAny_of_idx ks _ a' w' hB.2 h') hw

theorem wp_region_quiet_tail {id : Nat} {Q : Exit → Act → World → Prop} {a : Act} {w : World} {l : List Oper} (n : Nat) (hm : P.follows .mixedOrders = true) (hB : Region.lexTailB .any l.toArray n = true) (hC : C { w with drawn := w.drawn + 1 })
    (h : wpQuiet P l.toArray C (fun a' => ∀ w', C w' → wpList P l.toArray Q (l.drop n) a' w') (l.take n) a) : (Code.region id l.toArray true).wp P Q a w := by
  simp only [Region.lexTailB, Bool.and_eq_true, decide_eq_true_eq] at hB
  obtain ⟨⟨⟨⟨hsel, hn⟩, hs⟩, hc⟩, hlex⟩ := hB
  have hn' : n < l.length := by simpa using hn
  have htl : (l.take n).length = n := by simp; omega
  have hdl : (l.drop n).length = l.toArray.size - n := by simp
  have inv0 : HeadInv .any l.toArray n (Array.replicate l.toArray.size false) :=
    ⟨by simp, fun j oj _ hl => (by rw [getD_replicate_false] at hl; cases hl), fun t _ ht => getD_in (by simpa using ht) (getD_replicate_false _ _)⟩
  have H := wpAnyLQ_lex (C := C) (md := .any) (g := l.toArray.size - n) hsel hs hc hn (l.take n) 0 _ a (fun j hj => by
    have hj' : j < n := by rw [htl] at hj; exact hj
    simp [hj']) (by simpa using htl) inv0 (by rw [htl]; exact hlex) h
  refine wp_region_any hm ?_
  have := wpAny_of_headQ (C := C) (Q' := Q) (g := l.toArray.size - n) (fun listed a' w' hw' hL => by
    have := wpAny_of_seq (md := .any) (Q' := Q) (l.drop n) n listed a' w' (fun j => by simp [List.getElem?_drop]) (by rw [hdl]; exact hL.1) (hL.2 w' hw')
    rwa [hdl] at this) _ _ _ _ hC H
  rw [htl, show n + (l.toArray.size - n) = l.toArray.size by omega] at this
  exact this

/-- at the class 'w, some draws, some new blocks' -/
theorem wp_region_grown_tail {id : Nat} {Q : Exit → Act → World → Prop} {a : Act} {w : World} {l : List Oper} (n : Nat) (hm : P.follows .mixedOrders = true) (hB : Region.lexTailB .any l.toArray n = true)
    (h : wpQuiet P l.toArray (fun w' => ∃ p : Regrown, w' = grow (redrawn w p.d) p.os) (fun a' => ∀ w', (∃ p : Regrown, w' = grow (redrawn w p.d) p.os) → wpList P l.toArray Q (l.drop n) a' w') (l.take n) a) : (Code.region id l.toArray true).wp P Q a w :=
  wp_region_quiet_tail (C := fun w' => ∃ p : Regrown, w' = grow (redrawn w p.d) p.os) n hm hB ⟨⟨w.drawn + 1, #[]⟩, by rw [grow_empty]; rfl⟩ h
end
end Go.Proofs.Ytfdphpmcgidmiaa

/- A region that draws its order, in which a new variable is made by an operation that waits for nothing, and what a call hands back is stored into it: all the others are quiet, whatever stands behind the world: one walk of theirs serves every order. No condition. -/
namespace Go.Proofs.Ytfdphpmcgidmiaa
open Go.Sort Go.RowKit
set_option linter.unusedSimpArgs false
set_option linter.unusedVariables false
section
variable {P : Program} {ops : Array Oper} {md : Region.Mode}
/-- The worlds behind b. -/
def UpOf (b : World) : World → Prop := fun w' => ∃ p : Regrown, w' = grow (redrawn b p.d) p.os
theorem UpOf.below {b w' : World} (h : UpOf b w') : Below b.heap.size b w' := by
  obtain ⟨p, rfl⟩ := h
  exact below_regrown b p.d p.os
theorem UpOf.of {b w' : World} (h : Below b.heap.size b w') : UpOf b w' := regrown_of_below h
theorem UpOf.refl (w : World) : UpOf w w := UpOf.of (Below.refl _ _)
def lexIdx (md : Region.Mode) (ops : Array Oper) : List Nat → Array Bool → Bool
  | [], listed => (Region.ready md ops listed).isEmpty
  | k :: ks, listed => (Region.ready md ops listed).contains k && Region.free md ops listed k && lexIdx md ops ks (listed.setIfInBounds k true)
theorem wpAnyQ_idx {C : World → Prop} {Q : Act → Prop} {l : List Oper} (hs : Region.noSelect l.toArray = true) : ∀ (ks : List Nat) (listed : Array Bool) (a : Act),
    lexIdx md l.toArray ks listed = true → wpQuiet P l.toArray C Q (pickL ks l) a → wpAnyQ P md l.toArray C Q ks.length listed a
  | [], _, _, hB, h => ⟨by simpa [lexIdx] using hB, h⟩
  | k :: ks, listed, a, hB, h => by
    simp only [lexIdx, Bool.and_eq_true] at hB
    obtain ⟨⟨hr, hf⟩, hB'⟩ := hB
    have hk : k ∈ Region.ready md l.toArray listed := by simpa using hr
    obtain ⟨_, o, ho, _⟩ := mem_ready.1 hk
    have ho' : l[k]? = some o := by simpa using ho
    have hp : pickL (k :: ks) l = o :: pickL ks l := by
      have hkl : k < l.length := (List.getElem?_eq_some_iff.1 ho').1
      have e : (l.drop k).take 1 = [o] := by
        rw [List.drop_eq_getElem_cons hkl]
        have := (List.getElem?_eq_some_iff.1 ho').2
        simp [this]
      simp [pickL, e]
    rw [hp] at h
    have hst : qOp P l.toArray C k (wpQuiet P l.toArray C Q (pickL ks l)) a := by unfold qOp; simp only [ho]; exact h
    obtain ⟨v, hy, hK⟩ := yieldsIn_of_qOp ho hst
    exact wpAnyQ_first ho (Region.noSelect_spec hs) ks.length listed a (Region.free_spec ho hf) hk hy (wpAnyQ_idx hs ks _ _ hB' hK)

theorem put_tmps (a : Act) (d : Option Tmp) (v : Value) (e : Tmp) (h : d ≠ some e) : (a.put d v).tmps[e]? = a.tmps[e]? := by
  cases d with
  | none => rfl
  | some d =>
    have hne : d ≠ e := fun he => h (by rw [he])
    simp [Act.put, Array.getElem?_setIfInBounds_ne hne]
theorem put_size (a : Act) (d : Option Tmp) (v : Value) : (a.put d v).tmps.size = a.tmps.size := by
  cases d <;> simp [Act.put]
/-- What an operation left stays: the frame at the end is known, and none that is to come writes there. -/
theorem wpAnyQ_end {C : World → Prop} {F : Act} {e : Tmp} : ∀ (f : Nat) (listed : Array Bool) (a : Act), (∀ j oj, ops[j]? = some oj → listed.getD j true = false → oj.dst ≠ some e) →
    wpAnyQ P md ops C (fun a' => a' = F) f listed a → a.tmps[e]? = F.tmps[e]?
  | 0, _, _, _, h => by rw [h.2]
  | f + 1, listed, a, hd, h => by
    cases hr : Region.ready md ops listed with
    | nil => rw [h.1 hr]
    | cons i is =>
      have hi : i ∈ Region.ready md ops listed := by rw [hr]; simp
      obtain ⟨hun, oi, hoi, _⟩ := mem_ready.1 hi
      obtain ⟨v, _, hK⟩ := yieldsIn_of_qOp hoi (h.2 i hi)
      have := wpAnyQ_end f (listed.setIfInBounds i true) (a.put oi.dst v) (fun j oj hj hl => by
        by_cases hij : i = j
        · subst hij
          have : oj = oi := Option.some.inj (hj.symm.trans hoi)
          subst this
          exact hd i oj hj hun
        · rw [getD_set_ne true hij] at hl
          exact hd j oj hj hl) hK
      rw [← this, put_tmps _ _ _ _ (hd i oi hoi hun)]
theorem wpAnyQ_put {C : World → Prop} {F : Act} {f : Nat} {listed : Array Bool} {a : Act} {d : Option Tmp} {v v' : Value} (hv : ∀ e, d = some e → e < a.tmps.size → (a.put d v').tmps[e]? = F.tmps[e]?)
    (hw : ∀ e, d = some e → e < a.tmps.size → (a.put d v).tmps[e]? = F.tmps[e]?) (h : wpAnyQ P md ops C (fun a' => a' = F) f listed (a.put d v)) : wpAnyQ P md ops C (fun a' => a' = F) f listed (a.put d v') := by
  have e : a.put d v' = a.put d v := by
    cases d with
    | none => rfl
    | some d =>
      by_cases hs : d < a.tmps.size
      · have h1 := hv d rfl hs
        have h2 := hw d rfl hs
        have e1 : (a.put (some d) v').tmps[d]? = some v' := by simp [Act.put, hs]
        have e2 : (a.put (some d) v).tmps[d]? = some v := by simp [Act.put, hs]
        rw [e1] at h1
        rw [e2] at h2
        have := Option.some.inj (h1.trans h2.symm)
        rw [this]
      · simp only [Act.put]
        have hs' : a.tmps.size ≤ d := Nat.not_lt.1 hs
        rw [Array.setIfInBounds_eq_of_size_le hs', Array.setIfInBounds_eq_of_size_le hs']
  rw [e]
  exact h
def dstOnce (ops : Array Oper) : Bool :=
  (List.range ops.size).all fun i => (List.range ops.size).all fun j => decide (i = j) || match ops[i]?, ops[j]? with
    | some oi, some oj => oi.dst.isNone || decide (oi.dst ≠ oj.dst)
    | _, _ => true
theorem dstOnce_spec (h : dstOnce ops = true) {i j : Nat} {oi oj : Oper} {e : Tmp} (hi : ops[i]? = some oi) (hj : ops[j]? = some oj) (hij : i ≠ j) (he : oi.dst = some e) : oj.dst ≠ some e := by
  have hil : i < ops.size := (Array.getElem?_eq_some_iff.1 hi).1
  have hjl : j < ops.size := (Array.getElem?_eq_some_iff.1 hj).1
  have h1 := List.all_eq_true.1 (List.all_eq_true.1 h i (List.mem_range.2 hil)) j (List.mem_range.2 hjl)
  simp only [hi, hj, he, Bool.or_eq_true, decide_eq_true_eq, Option.isNone_some, Bool.false_eq_true, false_or] at h1
  rcases h1 with h1 | h1
  · exact absurd h1 hij
  · exact fun h => h1 h.symm
def lexOrd (md : Region.Mode) (ops : Array Oper) : Bool :=
  (List.range ops.size).all fun i => match ops[i]? with
    | some o => o.after.all fun e => !Region.binds md e || decide (e.on < i)
    | none => true
/-- Where none is ready, all have come up. -/
theorem all_listed (h : lexOrd md ops = true) {listed : Array Bool} (hr : Region.ready md ops listed = []) (hsz : listed.size = ops.size) : ∀ i, i < ops.size → listed.getD i true = true := by
  intro i
  induction i using Nat.strongRecOn with
  | _ i ih =>
    intro hi
    cases hl : listed.getD i true with
    | true => rfl
    | false =>
      have h1 := List.all_eq_true.1 h i (List.mem_range.2 hi)
      have hoi : ops[i]? = some ops[i] := Array.getElem?_eq_getElem hi
      have : i ∈ Region.ready md ops listed := by
        refine mem_ready.2 ⟨hl, ops[i], hoi, fun e he hb => ?_⟩
        simp only [hoi] at h1
        have h2 := Array.all_eq_true_iff_forall_mem.1 h1 e he
        simp only [hb, Bool.not_true, Bool.false_or, decide_eq_true_eq] at h2
        have h3 := ih e.on h2 (by omega)
        have h4 : e.on < listed.size := by omega
        simp [h4] at h3 ⊢
        exact h3
      rw [hr] at this
      cases this
structure NewVar (md : Region.Mode) (ops : Array Oper) (m s : Nat) (om os : Oper) (dm dv : Tmp) (T : TypeId) : Prop where
  lex : lexOrd md ops = true
  once : dstOnce ops = true
  sel : Region.noSelect ops = true
  hm : ops[m]? = some om
  hs : ops[s]? = some os
  md_ : om.dst = some dm
  sd : os.dst = none
  mg : om.guard = none
  sg : os.guard = none
  ma : ∀ e ∈ om.after, Region.binds md e = false
  store : os.op = .store T (.tmp dm) (.tmp dv)
  ne : dm ≠ dv
  waits : Region.waitsFor md ops s m = true
  value : ∀ k ok, ops[k]? = some ok → ok.dst = some dv → Region.waitsFor md ops s k = true
  apart : ∀ k ok, ops[k]? = some ok → k ≠ m → k ≠ s → om.apart ops ok = true
def newVarB (md : Region.Mode) (ops : Array Oper) (m s : Nat) (om os : Oper) (dm dv : Tmp) : Bool :=
  lexOrd md ops && dstOnce ops && Region.noSelect ops && decide (om.dst = some dm) && decide (os.dst = none) && om.guard.isNone && os.guard.isNone && om.after.all (fun e => !Region.binds md e) && decide (dm ≠ dv) &&
    Region.waitsFor md ops s m && ((List.range ops.size).all fun k => match ops[k]? with
      | some ok => (decide (ok.dst ≠ some dv) || Region.waitsFor md ops s k) && (decide (k = m) || decide (k = s) || om.apart ops ok)
      | none => true)
theorem NewVar.of {m s : Nat} {om os : Oper} {dm dv : Tmp} {T : TypeId} (hm : ops[m]? = some om) (hs : ops[s]? = some os) (hst : os.op = .store T (.tmp dm) (.tmp dv)) (h : newVarB md ops m s om os dm dv = true) : NewVar md ops m s om os dm dv T := by
  simp only [newVarB, Bool.and_eq_true, decide_eq_true_eq] at h
  obtain ⟨⟨⟨⟨⟨⟨⟨⟨⟨⟨h1, h2⟩, h3⟩, h4⟩, h5⟩, h6⟩, h7⟩, h8⟩, h9⟩, h10⟩, h11⟩ := h
  refine ⟨h1, h2, h3, hm, hs, h4, h5, by simpa using h6, by simpa using h7, fun e he => ?_, hst, h9, h10, fun k ok hk hd => ?_, fun k ok hk hkm hks => ?_⟩
  · have := Array.all_eq_true_iff_forall_mem.1 h8 e he
    simpa using this
  · have h := List.all_eq_true.1 h11 k (List.mem_range.2 (Array.getElem?_eq_some_iff.1 hk).1)
    simp only [hk, Bool.and_eq_true, Bool.or_eq_true, decide_eq_true_eq, hd] at h
    simpa using h.1
  · have h := List.all_eq_true.1 h11 k (List.mem_range.2 (Array.getElem?_eq_some_iff.1 hk).1)
    simp only [hk, Bool.and_eq_true, Bool.or_eq_true, decide_eq_true_eq, hkm, hks, false_or] at h
    exact h.2
variable {m s : Nat} {om os : Oper} {dm dv : Tmp} {T : TypeId} {F : Act} {w : World}
/-- All but the variable's own operations, from every world behind w. -/
def Rest (P : Program) (md : Region.Mode) (ops : Array Oper) (F : Act) (w : World) (f : Nat) (V : Array Bool) (a : Act) : Prop :=
  ∀ b, Below w.heap.size w b → wpAnyQ P md ops (UpOf b) (fun a' => a' = F) f V a
theorem rest_step (N : NewVar md ops m s om os dm dv T) {f i : Nat} {V : Array Bool} {a : Act} {w' : World} {od : Option Tmp} {pv : Value} {Q' : Exit → Act → World → Prop} {K : Act → World → Prop} (hod : od = none ∨ od = some dm) (hB : Below w.heap.size w w') (hR : Rest P md ops F w (f + 1) V a) (hi : i ∈ Region.ready md ops V) (hm : i ≠ m) (hs : i ≠ s)
    (hVs : V.size = ops.size) (hK : ∀ a1 w'', Below w'.heap.size w' w'' → a1.tmps.size = a.tmps.size → Rest P md ops F w f (V.setIfInBounds i true) a1 → K (a1.put od pv) w'') : wpOp P ops Q' i K (a.put od pv) w' := by
  obtain ⟨hun, oi, hoi, _⟩ := mem_ready.1 hi
  have hsel := N.sel
  have hap := N.apart i oi hoi hm hs
  obtain ⟨h1, h2, h3⟩ := Oper.apart_spec hap
  have hlook : ∀ d, od = some d → d ∉ oi.looksAt ops := fun d hd => by
    rcases hod with rfl | rfl
    · cases hd
    · injection hd with hd
      subst hd
      exact h1 _ N.md_
  have hdst : ∀ d, od = some d → oi.dst ≠ some d := fun d hd => by
    rcases hod with rfl | rfl
    · cases hd
    · injection hd with hd
      subst hd
      exact h2 _ N.md_
  have hend : ∀ (b : World) (v : Value), wpAnyQ P md ops (UpOf b) (fun a' => a' = F) f (V.setIfInBounds i true) (a.put oi.dst v) → ∀ e, oi.dst = some e → e < a.tmps.size → (a.put oi.dst v).tmps[e]? = F.tmps[e]? := fun b v h e he _ => by
    refine wpAnyQ_end f _ _ (fun j oj hj hl => ?_) h
    by_cases hij : i = j
    · subst hij
      have hlt : i < V.size := by rw [hVs]; exact (Array.getElem?_eq_some_iff.1 hoi).1
      simp [hlt] at hl
    · exact dstOnce_spec N.once hoi hj hij he
  obtain ⟨v, hy, hW⟩ := yieldsIn_of_qOp hoi ((hR w' hB).2 i hi)
  have hy' : YieldsIn P ops (UpOf w') oi v (a.put od pv) := hy.of_same (execOp_put oi (fun cs b => Region.noSelect_spec hsel i oi cs b hoi) a od pv hlook) (wanted_put oi a od pv hlook)
  have hall : Rest P md ops F w f (V.setIfInBounds i true) (a.put oi.dst v) := fun b hb => by
    obtain ⟨v', _, hW'⟩ := yieldsIn_of_qOp hoi ((hR b hb).2 i hi)
    exact wpAnyQ_put (hend w' v hW) (hend b v' hW') hW'
  have hq := hy'.qOp hoi (K := fun a'' => a'' = (a.put oi.dst v).put od pv) (Act.put_comm a pv v hdst)
  refine wpOp_of_qOp (C := UpOf w') (UpOf.refl w') (fun a'' w'' hw'' ha'' => ?_) hq
  rw [ha'']
  exact hK _ _ hw''.below (put_size _ _ _) hall

def Made (w : World) (T : TypeId) (cs : Array Value) (b : Nat) (w' : World) : Prop := w.heap.size ≤ b ∧ Blok w' b T cs ∧ Below w.heap.size w w'
theorem Made.below {w w' w'' : World} {cs : Array Value} {b : Nat} (h : Made w T cs b w') (hb : Below w'.heap.size w' w'') : Made w T cs b w'' :=
  ⟨h.1, h.2.1.below hb h.2.1.lt, h.2.2.trans (hb.mono h.2.2.size)⟩
theorem ready_of {listed : Array Bool} {V : Array Bool} (hV : ∀ j, listed.getD j true = true → V.getD j true = true) (hne : ∀ j, listed.getD j false = true → V.getD j false = true) {i : Nat} (hi : i ∈ Region.ready md ops listed) (hu : V.getD i true = false) : i ∈ Region.ready md ops V := by
  obtain ⟨_, o, ho, hall⟩ := mem_ready.1 hi
  exact mem_ready.2 ⟨hu, o, ho, fun e he hb => hne _ (hall e he hb)⟩

/-- The variable is made and filled: all the others. -/
theorem nv_done (N : NewVar md ops m s om os dm dv T) {cs : Array Value} {b : Nat} {Q' : Exit → Act → World → Prop} (hQ : ∀ w', Made w T cs b w' → Q' .normal (F.put (some dm) (.pointer (some ⟨b, 0, none⟩))) w') :
    ∀ (f : Nat) (V : Array Bool) (a : Act) (w' : World), V.size = ops.size → V.getD m true = true → V.getD s true = true → Made w T cs b w' → Rest P md ops F w f V a → wpAny P md ops Q' f V (a.put (some dm) (.pointer (some ⟨b, 0, none⟩))) w'
  | 0, V, a, w', _, _, _, hM, hR => by
    have h := hR w' hM.2.2
    exact ⟨h.1, by rw [show a = F from h.2]; exact hQ w' hM⟩
  | f + 1, V, a, w', hsz, hvm, hvs, hM, hR => by
    refine ⟨fun h0 => by rw [show a = F from (hR w' hM.2.2).1 h0]; exact hQ w' hM, fun i hi => ?_⟩
    have hun := (mem_ready.1 hi).1
    refine rest_step N (.inr rfl) hM.2.2 hR hi (fun e => by rw [e, hvm] at hun; cases hun) (fun e => by rw [e, hvs] at hun; cases hun) hsz fun a1 w'' hb _ hR1 => ?_
    exact nv_done N hQ f _ a1 w'' (by simp [hsz]) (by
      by_cases e : i = m
      · subst e; rw [hvm] at hun; cases hun
      · rw [getD_set_ne true e]; exact hvm) (by
      by_cases e : i = s
      · subst e; rw [hvs] at hun; cases hun
      · rw [getD_set_ne true e]; exact hvs) (hM.below hb) hR1
theorem set_below {w w' : World} (b : Nat) (hb : w.heap.size ≤ b) : ∀ (vs : List Value) (o : Nat), Below w.heap.size w w' → Below w.heap.size w (w'.setCells b o vs)
  | [], _, h => h
  | v :: r, o, h => by
    rw [World.setCells]
    exact set_below b hb r (o + 1) (h.setCell (p := ⟨b, o, none⟩) hb v)
theorem set_blok {b : Nat} : ∀ (vs : List Value) (o : Nat) (w' : World) (cs : Array Value), Blok w' b T cs → o + vs.length = cs.size → ∃ cs', Blok (w'.setCells b o vs) b T cs' ∧ cs'.size = cs.size ∧ (∀ j, j < o → cs'[j]? = cs[j]?) ∧ ∀ j, j < vs.length → cs'[o + j]? = vs[j]?
  | [], o, w', cs, h, _ => ⟨cs, h, rfl, fun _ _ => rfl, fun j hj => by simp at hj⟩
  | v :: r, o, w', cs, h, hl => by
    rw [World.setCells]
    simp only [List.length_cons] at hl
    obtain ⟨cs', h1, h2, h3, h4⟩ := set_blok r (o + 1) (w'.setCell ⟨b, o, none⟩ v) (cs.setIfInBounds o v) (h.set_ o v) (by simp; omega)
    refine ⟨cs', h1, by simpa using h2, fun j hj => ?_, fun j hj => ?_⟩
    · rw [h3 j (by omega), Array.getElem?_setIfInBounds_ne (by omega)]
    · cases j with
      | zero =>
        rw [Nat.add_zero, h3 o (by omega), Array.getElem?_setIfInBounds_self_of_lt (by omega)]
        rfl
      | succ j =>
        simp only [List.length_cons] at hj
        have := h4 j (by omega)
        rw [show o + (j + 1) = o + 1 + j by omega, this]
        rfl
theorem set_whole {b : Nat} {w' : World} {zs cs : Array Value} (h : Blok w' b T zs) (hz : cs.size = zs.size) : Blok (w'.setCells b 0 cs.toList) b T cs := by
  obtain ⟨cs', h1, h2, _, h4⟩ := set_blok cs.toList 0 w' zs h (by simpa using hz)
  have e : cs' = cs := by
    apply Array.ext_getElem?
    intro j
    by_cases hj : j < cs.size
    · have := h4 j (by simpa using hj)
      rw [Nat.zero_add] at this
      rw [this]
      simp
    · rw [Array.getElem?_eq_none (by omega), Array.getElem?_eq_none (by omega)]
  rwa [e] at h1
theorem setD_same {R : Array Bool} {i : Nat} (h : i < R.size) : (R.setIfInBounds i true).getD i true = true := by simp [h]
theorem wanted_plain {o : Oper} {a : Act} (h : o.guard = none) : Region.wanted o (yielded ops a.tmps) = true := by unfold Region.wanted; rw [h]
/-- One step, the variable made and not filled. -/
theorem nv_made_step (N : NewVar md ops m s om os dm dv T) {zs cs : Array Value} {b : Nat} {Q' : Exit → Act → World → Prop} (hz : cs.size = zs.size) (hi : (P.info? T).map (·.size) = some cs.size) (h1 : cs.all (·.oneCell') = true) (hF : F.tmps[dv]? = some (.agg cs)) (hdm : dm < F.tmps.size)
    (hQ : ∀ w', Made w T cs b w' → Q' .normal (F.put (some dm) (.pointer (some ⟨b, 0, none⟩))) w') (f : Nat)
    (ih : ∀ g, g + 1 = f → ∀ (R : Array Bool) (a : Act) (w' : World), R.size = ops.size → R.getD m true = true → R.getD s true = false → a.tmps.size = F.tmps.size → Made w T zs b w' → Rest P md ops F w g (R.setIfInBounds s true) a → wpAny P md ops Q' (g + 1) R (a.put (some dm) (.pointer (some ⟨b, 0, none⟩))) w')
    (R : Array Bool) (a : Act) (w' : World) (hsz : R.size = ops.size) (hrm : R.getD m true = true) (hrs : R.getD s true = false) (has : a.tmps.size = F.tmps.size) (hM : Made w T zs b w') (hR : Rest P md ops F w f (R.setIfInBounds s true) a) : wpAny P md ops Q' (f + 1) R (a.put (some dm) (.pointer (some ⟨b, 0, none⟩))) w' := by
  have hsl : s < ops.size := (Array.getElem?_eq_some_iff.1 N.hs).1
  have hml : m < ops.size := (Array.getElem?_eq_some_iff.1 N.hm).1
  refine ⟨fun h0 => absurd (all_listed N.lex h0 hsz s hsl) (by rw [hrs]; simp), fun i hir => ?_⟩
  have hun := (mem_ready.1 hir).1
  have him : i ≠ m := fun e => by rw [e, hrm] at hun; cases hun
  by_cases his : i = s
  · subst his
    have hdv : a.tmps[dv]? = some (.agg cs) := by
      rw [← hF]
      refine wpAnyQ_end f _ _ (fun j oj hj hl hd => ?_) (hR w' hM.2.2)
      have hji : i ≠ j := fun e => by
        subst e
        rw [setD_same (by omega)] at hl
        cases hl
      rw [getD_set_ne true hji] at hl
      obtain ⟨o', ho', e, he, hb, hon⟩ := Region.waitsFor_spec (N.value j oj hj hd)
      obtain ⟨_, o2, ho2, hall⟩ := mem_ready.1 hir
      obtain rfl : o2 = o' := Option.some.inj (ho2.symm.trans ho')
      have := hall e he hb
      rw [hon, getD_both hl] at this
      cases this
    unfold wpOp
    simp only [N.hs]
    rw [if_pos (wanted_plain N.sg)]
    refine .inl (wp_store_mid T (.tmp dm) (.tmp dv) N.store b 0 cs ?_ ?_ ?_ hi h1 ?_)
    · simp [Act.eval, Act.put, has, hdm]
    · rw [Act.eval_put (fun d hd => by injection hd with hd; subst hd; exact fun e => N.ne (by injection e with e; exact e.symm))]
      simp [Act.eval, hdv]
    · intro j hj
      rw [Nat.zero_add]
      refine ⟨?_, hM.2.1.free j⟩
      rw [hM.2.1.cell j]
      have : j < zs.size := by omega
      simp [this]
    · rw [N.sd]
      refine nv_done N hQ f _ a _ (by simp [hsz]) (by rw [getD_set_ne true him]; exact hrm) (setD_same (by omega)) ⟨hM.1, set_whole hM.2.1 hz, set_below b hM.1 _ _ hM.2.2⟩ hR
  · have hiV : i ∈ Region.ready md ops (R.setIfInBounds s true) := ready_mono hir his
    cases f with
    | zero =>
      have := (hR w' hM.2.2).1
      rw [this] at hiV
      cases hiV
    | succ g =>
      refine rest_step N (.inr rfl) hM.2.2 hR hiV him his (by simp [hsz]) fun a1 w'' hb ha1 hR1 => ?_
      rw [Array.setIfInBounds_comm _ _ (Ne.symm his)] at hR1
      exact ih g rfl _ a1 w'' (by simp [hsz]) (by rw [getD_set_ne true him]; exact hrm) (by rw [getD_set_ne true his]; exact hrs) (by rw [ha1, has]) (hM.below hb) hR1
/-- The variable is made, not filled. -/
theorem nv_made (N : NewVar md ops m s om os dm dv T) {zs cs : Array Value} {b : Nat} {Q' : Exit → Act → World → Prop} (hz : cs.size = zs.size) (hi : (P.info? T).map (·.size) = some cs.size) (h1 : cs.all (·.oneCell') = true) (hF : F.tmps[dv]? = some (.agg cs)) (hdm : dm < F.tmps.size)
    (hQ : ∀ w', Made w T cs b w' → Q' .normal (F.put (some dm) (.pointer (some ⟨b, 0, none⟩))) w') :
    ∀ (f : Nat) (R : Array Bool) (a : Act) (w' : World), R.size = ops.size → R.getD m true = true → R.getD s true = false → a.tmps.size = F.tmps.size → Made w T zs b w' → Rest P md ops F w f (R.setIfInBounds s true) a → wpAny P md ops Q' (f + 1) R (a.put (some dm) (.pointer (some ⟨b, 0, none⟩))) w' := by
  intro f
  induction f with
  | zero =>
    intro R a w' hsz hrm hrs has hM hR
    exact nv_made_step N hz hi h1 hF hdm hQ 0 (fun g hg => by omega) R a w' hsz hrm hrs has hM hR
  | succ f ih =>
    intro R a w' hsz hrm hrs has hM hR
    exact nv_made_step N hz hi h1 hF hdm hQ (f + 1) (fun g hg => by cases hg; exact ih) R a w' hsz hrm hrs has hM hR
/-- One step, nothing made. -/
theorem nv_open_step (N : NewVar md ops m s om os dm dv T) {zs cs : Array Value} {Q' : Exit → Act → World → Prop} (hal : ∀ (a : Act) (w : World), (execOp a.eval om).run P w = .ok (.value (.pointer (some ⟨w.heap.size, 0, none⟩))) (w.alloc (.cells zs T)))
    (hz : cs.size = zs.size) (hi : (P.info? T).map (·.size) = some cs.size) (h1 : cs.all (·.oneCell') = true) (hF : F.tmps[dv]? = some (.agg cs)) (hdm : dm < F.tmps.size)
    (hQ : ∀ b w', Made w T cs b w' → Q' .normal (F.put (some dm) (.pointer (some ⟨b, 0, none⟩))) w') (f : Nat)
    (ih : ∀ g, g + 1 = f → ∀ (R : Array Bool) (a : Act) (w' : World), R.size = ops.size → R.getD m true = false → R.getD s true = false → a.tmps.size = F.tmps.size → Below w.heap.size w w' → Rest P md ops F w g ((R.setIfInBounds m true).setIfInBounds s true) a → wpAny P md ops Q' (g + 2) R a w')
    (R : Array Bool) (a : Act) (w' : World) (hsz : R.size = ops.size) (hrm : R.getD m true = false) (hrs : R.getD s true = false) (has : a.tmps.size = F.tmps.size) (hB : Below w.heap.size w w') (hR : Rest P md ops F w f ((R.setIfInBounds m true).setIfInBounds s true) a) : wpAny P md ops Q' (f + 2) R a w' := by
  have hsl : s < ops.size := (Array.getElem?_eq_some_iff.1 N.hs).1
  have hml : m < ops.size := (Array.getElem?_eq_some_iff.1 N.hm).1
  refine ⟨fun h0 => absurd (all_listed N.lex h0 hsz s hsl) (by rw [hrs]; simp), fun i hir => ?_⟩
  have hun := (mem_ready.1 hir).1
  have his : i ≠ s := fun e => by
    subst e
    obtain ⟨o', ho', e, he, hb, hon⟩ := Region.waitsFor_spec N.waits
    obtain ⟨_, o2, ho2, hall⟩ := mem_ready.1 hir
    obtain rfl : o2 = o' := Option.some.inj (ho2.symm.trans ho')
    have := hall e he hb
    rw [hon, getD_both hrm] at this
    cases this
  by_cases him : i = m
  · subst him
    unfold wpOp
    simp only [N.hm]
    rw [if_pos (wanted_plain N.mg)]
    refine .inl ?_
    unfold Oper.wp
    rw [hal, Oper.upon_value, N.md_]
    refine nv_made N hz hi h1 hF hdm (fun w2 h2 => hQ _ w2 h2) f _ a _ (by simp [hsz]) (setD_same (by omega)) (by rw [getD_set_ne true his]; exact hrs) has ⟨hB.size, Blok.new _ _ _, hB.alloc hB.size _⟩ hR
  · have hiV : i ∈ Region.ready md ops ((R.setIfInBounds m true).setIfInBounds s true) := ready_mono (ready_mono hir him) his
    cases f with
    | zero =>
      have := (hR w' hB).1
      rw [this] at hiV
      cases hiV
    | succ g =>
      refine rest_step N (od := none) (pv := undef) (.inl rfl) hB hR hiV him his (by simp [hsz]) fun a1 w'' hb ha1 hR1 => ?_
      rw [Array.setIfInBounds_comm _ _ (Ne.symm his), Array.setIfInBounds_comm _ _ (Ne.symm him)] at hR1
      exact ih g rfl _ a1 w'' (by simp [hsz]) (by rw [getD_set_ne true him]; exact hrm) (by rw [getD_set_ne true his]; exact hrs) (by rw [ha1, has]) (hB.trans (hb.mono hB.size)) hR1
/-- Nothing is made yet. -/
theorem nv_open (N : NewVar md ops m s om os dm dv T) {zs cs : Array Value} {Q' : Exit → Act → World → Prop} (hal : ∀ (a : Act) (w : World), (execOp a.eval om).run P w = .ok (.value (.pointer (some ⟨w.heap.size, 0, none⟩))) (w.alloc (.cells zs T)))
    (hz : cs.size = zs.size) (hi : (P.info? T).map (·.size) = some cs.size) (h1 : cs.all (·.oneCell') = true) (hF : F.tmps[dv]? = some (.agg cs)) (hdm : dm < F.tmps.size)
    (hQ : ∀ b w', Made w T cs b w' → Q' .normal (F.put (some dm) (.pointer (some ⟨b, 0, none⟩))) w') :
    ∀ (f : Nat) (R : Array Bool) (a : Act) (w' : World), R.size = ops.size → R.getD m true = false → R.getD s true = false → a.tmps.size = F.tmps.size → Below w.heap.size w w' → Rest P md ops F w f ((R.setIfInBounds m true).setIfInBounds s true) a → wpAny P md ops Q' (f + 2) R a w' := by
  intro f
  induction f with
  | zero =>
    intro R a w' hsz hrm hrs has hM hR
    exact nv_open_step N hal hz hi h1 hF hdm hQ 0 (fun g hg => by omega) R a w' hsz hrm hrs has hM hR
  | succ f ih =>
    intro R a w' hsz hrm hrs has hM hR
    exact nv_open_step N hal hz hi h1 hF hdm hQ (f + 1) (fun g hg => by cases hg; exact ih) R a w' hsz hrm hrs has hM hR
theorem cell_up {w b : World} {a : Addr} {v : Value} (h : w.cell? a = some v) (hb : Below w.heap.size w b) (d : Nat) (os : Array Obj) : (grow (redrawn b d) os).cell? a = some v :=
  cell_regrown ((hb.cell (block_lt_of_cell h)).trans h) d os
theorem up_below {w b : World} (hb : Below w.heap.size w b) (d : Nat) (os : Array Obj) : Below w.heap.size w (grow (redrawn b d) os) := hb.trans ((below_regrown b d os).mono hb.size)
theorem wp_region_newvar {id : Nat} {Q' : Exit → Act → World → Prop} {a : Act} {l : List Oper} (ks : List Nat) (hmo : P.follows .mixedOrders = true) (N : NewVar .any l.toArray m s om os dm dv T) (hks : lexIdx .any l.toArray ks (((Array.replicate l.length false).setIfInBounds m true).setIfInBounds s true) = true) (hlen : ks.length + 2 = l.length)
    {zs cs : Array Value} (hal : ∀ (a : Act) (w : World), (execOp a.eval om).run P w = .ok (.value (.pointer (some ⟨w.heap.size, 0, none⟩))) (w.alloc (.cells zs T)))
    (hz : cs.size = zs.size) (hi : (P.info? T).map (·.size) = some cs.size) (h1 : cs.all (·.oneCell') = true)
    (h : ∃ F : Act, (∀ b, Below w.heap.size w b → wpQuiet P l.toArray (fun w' => ∃ p : Regrown, w' = grow (redrawn b p.d) p.os) (fun a' => a' = F) (pickL ks l) a) ∧ F.tmps[dv]? = some (.agg cs) ∧ dm < F.tmps.size ∧ a.tmps.size = F.tmps.size ∧
      ∀ b w', Made w T cs b w' → Q' .normal (F.put (some dm) (.pointer (some ⟨b, 0, none⟩))) w') : (Code.region id l.toArray true).wp P Q' a w := by
  obtain ⟨F, hq, hF, hdm, hsz, hQ⟩ := h
  refine wp_region_any hmo ?_
  have hR : Rest P .any l.toArray F w ks.length (((Array.replicate l.length false).setIfInBounds m true).setIfInBounds s true) a := fun b hb => wpAnyQ_idx N.sel ks _ a hks (hq b hb)
  have hml : m < l.length := by simpa using (Array.getElem?_eq_some_iff.1 N.hm).1
  have hsl : s < l.length := by simpa using (Array.getElem?_eq_some_iff.1 N.hs).1
  have := nv_open (md := .any) N hal hz hi h1 hF hdm hQ ks.length (Array.replicate l.length false) a w.drew (by simp) (by simp [hml]) (by simp [hsl]) hsz ((Below.refl _ _).drew) hR
  rw [hlen] at this
  simpa using this
end
end Go.Proofs.Ytfdphpmcgidmiaa

/- Contracts of plan.Right and of Few. They make new memory alone. -/
namespace Go.Proofs.Ytfdphpmcgidmiaa
open Go.ChangeShapes Go.WideShapes Go.ChangeAt Go.RowKit Go.Sort
set_option linter.unusedSimpArgs false
set_option linter.unusedVariables false
def aheadC (cs : List Co) (clk : Int) : Bool := !cs.any fun x => decide (x.en ≤ clk)
def aheadR (rs : List Rg) (clk : Int) : Bool := !rs.any fun x => decide (x.en ≤ clk)
def rightP (cs : List Co) (rs : List Rg) (clk ver : Int) : Bool :=
  Kc.rightC cs && (Kr.rightB rs && (inB clk 0 2147483647 && (inB ver 0 1099511627776 && (aheadC cs clk && aheadR rs clk))))
structure RightP (cs : List Co) (rs : List Rg) (clk ver : Int) : Prop where
  co : Kc.rightC cs = true
  rg : Kr.rightB rs = true
  c0 : 0 ≤ clk
  c1 : clk ≤ 2147483647
  v0 : 0 ≤ ver
  v1 : ver ≤ 1099511627776
  ec : ∀ x ∈ cs, clk < x.en
  er : ∀ x ∈ rs, clk < x.en
theorem rightP_spec {cs : List Co} {rs : List Rg} {clk ver : Int} : rightP cs rs clk ver = true ↔ RightP cs rs clk ver := by
  unfold rightP aheadC aheadR inB
  constructor
  · intro h
    simp only [Bool.and_eq_true, decide_eq_true_eq, Bool.not_eq_true', List.any_eq_false, Int.not_le] at h
    obtain ⟨h1, h2, h3, h4, h5, h6⟩ := h
    exact ⟨h1, h2, h3.1, h3.2, h4.1, h4.2, h5, h6⟩
  · intro h
    simp only [Bool.and_eq_true, decide_eq_true_eq, Bool.not_eq_true', List.any_eq_false, Int.not_le]
    exact ⟨h.co, h.rg, ⟨h.c0, h.c1⟩, ⟨h.v0, h.v1⟩, h.ec, h.er⟩
set_option maxRecDepth 100000 in
theorem pright1_any (x : Co) (clk : Int) (g : Nat) (t : TypeId) (v0 v1 v3 : Value) (w : World) (hR : Blok w g t #[v0, v1, .int .i64 clk, v3]) : Calls Try.prog 50 #[.agg #[.int .i64 x.id, .int .i64 x.fr, .int .i64 x.tn, .int .i64 x.st, .int .i64 x.en, .int .i64 x.rt], .pointer (some ⟨g, 0, none⟩)] w fun e w' => e = .returned (.bool (decide (x.en ≤ clk))) ∧ Below w.heap.size w w' := by
  have r2 : w.cell? ⟨g, 2, none⟩ = some (.int .i64 clk) := hR.cell 2
  have hl := hR.lt
  clear hR
  go_enter Try.func50, Try.ntmps50
  go_wp2
  all_goals go_ret
  all_goals exact ⟨rfl, by (repeat (first | exact Below.refl _ _ | refine Below.alloc ?_ (by first | omega | (simp; done) | (simp; omega)) _ | refine Below.setCell ?_ (by first | omega | (simp; done) | (simp; omega)) _ | refine Below.drew ?_))⟩
set_option maxRecDepth 100000 in
theorem pright2_any (x : Rg) (clk : Int) (g : Nat) (t : TypeId) (v0 v1 v3 : Value) (w : World) (hR : Blok w g t #[v0, v1, .int .i64 clk, v3]) : Calls Try.prog 52 #[.agg #[.int .i64 x.fr, .int .i64 x.tn, .int .i64 x.st, .int .i64 x.en, .int .i64 x.ow], .pointer (some ⟨g, 0, none⟩)] w fun e w' => e = .returned (.bool (decide (x.en ≤ clk))) ∧ Below w.heap.size w w' := by
  have r2 : w.cell? ⟨g, 2, none⟩ = some (.int .i64 clk) := hR.cell 2
  have hl := hR.lt
  clear hR
  go_enter Try.func52, Try.ntmps52
  go_wp2
  all_goals go_ret
  all_goals exact ⟨rfl, by (repeat (first | exact Below.refl _ _ | refine Below.alloc ?_ (by first | omega | (simp; done) | (simp; omega)) _ | refine Below.setCell ?_ (by first | omega | (simp; done) | (simp; omega)) _ | refine Below.drew ?_))⟩
theorem pred_pr1 (clk : Int) (g : Nat) (t : TypeId) (v0 v1 v3 : Value) (w : World) (hR : Blok w g t #[v0, v1, .int .i64 clk, v3]) : PredCo 50 #[.pointer (some ⟨g, 0, none⟩)] none w (fun x => decide (x.en ≤ clk)) :=
  ⟨enter_run Try.func50 rfl rfl, fun w' hg x => pright1_any x clk g t v0 v1 v3 w' (hR.grown hg (fun e => by cases e))⟩
theorem pred_pr2 (clk : Int) (g : Nat) (t : TypeId) (v0 v1 v3 : Value) (w : World) (hR : Blok w g t #[v0, v1, .int .i64 clk, v3]) : PredRg 52 #[.pointer (some ⟨g, 0, none⟩)] none w (fun x => decide (x.en ≤ clk)) :=
  ⟨enter_run Try.func52 rfl rfl, fun w' hg x => pright2_any x clk g t v0 v1 v3 w' (hR.grown hg (fun e => by cases e))⟩
set_option maxHeartbeats 4000000 in
set_option maxRecDepth 100000 in
theorem pright_any (A1 : Option Addr) (n1 c1 : Nat) (cs : List Co) (A : Option Addr) (n c : Nat) (rs : List Rg) (clk ver : Int) (w : World) (hd1 : cs.length = n1) (hn1 : n1 ≤ 1000000) (hd : rs.length = n) (hn : n ≤ 1000000) (h1 : Sl w w.heap.size 6 A1 n1 c1 (flatCo cs)) (h : Sl w w.heap.size 5 A n c (flatRg rs)) (b : Bool) (hb : rightP cs rs clk ver = b) :
    Calls Try.prog 24 #[.agg #[.slice A1 n1 c1, .slice A n c, .int .i64 clk, .int .i64 ver]] w fun e w' => e = .returned (.bool b) ∧ Below w.heap.size w w' := by
  have hB : Below w.heap.size w (w.alloc (.cells #[.slice A1 n1 c1, .slice A n c, .int .i64 clk, .int .i64 ver] 25)) := by (repeat (first | exact Below.refl _ _ | refine Below.alloc ?_ (by first | omega | (simp; done) | (simp; omega)) _ | refine Below.setCell ?_ (by first | omega | (simp; done) | (simp; omega)) _ | refine Below.drew ?_))
  have hP := Blok.new w 25 #[.slice A1 n1 c1, .slice A n c, .int .i64 clk, .int .i64 ver]
  replace h1 := h1.up hB
  replace h := h.up hB
  have hs := hB.size
  have HB := Lib.hid hb
  have HD1 := Lib.hid hd1
  have HD := Lib.hid hd
  clear hb hd hd1
  obtain ⟨b1, q1⟩ : ∃ q, Kc.rightC cs = q := ⟨_, rfl⟩
  obtain ⟨b2, q2⟩ : ∃ q, Kr.rightB rs = q := ⟨_, rfl⟩
  obtain ⟨b3, q3⟩ : ∃ q, inB clk 0 2147483647 = q := ⟨_, rfl⟩
  obtain ⟨b4, q4⟩ : ∃ q, inB ver 0 1099511627776 = q := ⟨_, rfl⟩
  obtain ⟨b5, q5⟩ : ∃ q, (cs.any fun x => decide (x.en ≤ clk)) = q := ⟨_, rfl⟩
  obtain ⟨b6, q6⟩ : ∃ q, (rs.any fun x => decide (x.en ≤ clk)) = q := ⟨_, rfl⟩
  have hbb : b = (b1 && (b2 && (b3 && (b4 && (!b5 && !b6))))) := by rw [← HB.out]; unfold rightP aheadC aheadR; rw [q1, q2, q3, q4, q5, q6]
  have Q1 := Lib.hid q1
  have Q2 := Lib.hid q2
  have Q3 := Lib.hid q3
  have Q4 := Lib.hid q4
  have Q5 := Lib.hid q5
  have Q6 := Lib.hid q6
  have HBB := Lib.hid hbb
  clear q1 q2 q3 q4 q5 q6 hbb HB
  go_enter Try.func24, Try.ntmps24
  go_wp2_with fail
  generalize w.alloc (.cells #[.slice A1 n1 c1, .slice A n c, .int .i64 clk, .int .i64 ver] 25) = w0 at *
  refine (Kc.right_any A1 n1 c1 cs w0 HD1.out hn1 h1).mono ?_
  rintro e w1 ⟨rfl, hb⟩
  rw [Q1.out]
  replace h1 := h1.up hb
  replace h := h.up hb
  replace hP := hP.below hb hP.lt
  replace hB := hB.trans (hb.mono hs)
  replace hs := hB.size
  clear hb
  cases b1
  · go_wp2_with fail
    go_ret
    exact ⟨by rw [HBB.out]; rfl, hB⟩
  have r1 : w1.cell? ⟨w.heap.size, 1, none⟩ = some (.slice A n c) := hP.cell 1
  have lt_p := hP.lt
  go_wp2_with fail
  clear r1 lt_p
  refine (Kr.right_any A n c rs w1 HD.out hn h).mono ?_
  rintro e w2 ⟨rfl, hb⟩
  rw [Q2.out]
  replace h1 := h1.up hb
  replace h := h.up hb
  replace hP := hP.below hb hP.lt
  replace hB := hB.trans (hb.mono hs)
  replace hs := hB.size
  clear hb
  cases b2
  · go_wp2_with fail
    go_ret
    exact ⟨by rw [HBB.out]; rfl, hB⟩
  have r2 : w2.cell? ⟨w.heap.size, 2, none⟩ = some (.int .i64 clk) := hP.cell 2
  have r3 : w2.cell? ⟨w.heap.size, 3, none⟩ = some (.int .i64 ver) := hP.cell 3
  have lt_p := hP.lt
  go_wp2_with fail
  refine (in_any clk 0 2147483647 w2).mono ?_
  rintro e w3 ⟨rfl, rfl⟩
  rw [Q3.out]
  cases b3
  · go_wp2_with fail
    go_ret
    exact ⟨by rw [HBB.out]; rfl, hB⟩
  go_wp2_with fail
  refine (in_any ver 0 1099511627776 w2).mono ?_
  rintro e w3 ⟨rfl, rfl⟩
  rw [Q4.out]
  cases b4
  · go_wp2_with fail
    go_ret
    exact ⟨by rw [HBB.out]; rfl, hB⟩
  have r0 : w2.cell? ⟨w.heap.size, 0, none⟩ = some (.slice A1 n1 c1) := hP.cell 0
  go_wp2_with fail
  clear r0 r2 r3 lt_p
  refine (containsCo A1 n1 c1 cs _ _ none _ w2 HD1.out hn1 h1 (pred_pr1 clk _ _ _ _ _ w2 hP)).mono ?_
  rintro e w3 ⟨rfl, hb⟩
  rw [Q5.out]
  replace h1 := h1.up hb
  replace h := h.up hb
  replace hP := hP.below hb hP.lt
  replace hB := hB.trans (hb.mono hs)
  replace hs := hB.size
  clear hb
  cases b5
  case true =>
    go_wp2_with fail
    go_ret
    exact ⟨by rw [HBB.out]; rfl, hB⟩
  have r1 : w3.cell? ⟨w.heap.size, 1, none⟩ = some (.slice A n c) := hP.cell 1
  have lt_p := hP.lt
  go_wp2_with fail
  clear r1 lt_p
  refine (containsRg A n c rs _ _ none _ w3 HD.out hn h (pred_pr2 clk _ _ _ _ _ w3 hP)).mono ?_
  rintro e w4 ⟨rfl, hb⟩
  rw [Q6.out]
  replace hB := hB.trans (hb.mono hs)
  clear hb
  cases b6
  all_goals
    go_wp2_with fail
    go_ret
    exact ⟨by rw [HBB.out]; rfl, hB⟩
set_option maxHeartbeats 1000000 in
set_option maxRecDepth 100000 in
theorem few_any (A1 : Option Addr) (n1 c1 : Nat) (A : Option Addr) (n c : Nat) (clk ver : Int) (w : World) (b : Bool) (hb : decide (n1 ≤ 50 ∧ n ≤ 50) = b) :
    Calls Try.prog 9 #[.agg #[.slice A1 n1 c1, .slice A n c, .int .i64 clk, .int .i64 ver]] w fun e w' => e = .returned (.bool b) ∧ Below w.heap.size w w' := by
  have hB : Below w.heap.size w (w.alloc (.cells #[.slice A1 n1 c1, .slice A n c, .int .i64 clk, .int .i64 ver] 25)) := by (repeat (first | exact Below.refl _ _ | refine Below.alloc ?_ (by first | omega | (simp; done) | (simp; omega)) _ | refine Below.setCell ?_ (by first | omega | (simp; done) | (simp; omega)) _ | refine Below.drew ?_))
  by_cases h1 : n1 ≤ 50
  · by_cases h2 : n ≤ 50
    all_goals
      obtain rfl : b = decide (n ≤ 50) := by rw [← hb]; simp [h1]
      clear hb
      have g1 : decide ((n1 : Int) ≤ 50) = true := decide_eq_true (by omega)
      first | have g2 : decide ((n : Int) ≤ 50) = true := decide_eq_true (by omega) | have g2 : decide ((n : Int) ≤ 50) = false := decide_eq_false (by omega)
      go_enter Try.func9, Try.ntmps9
      go_wp2_with fail
      go_ret
      exact ⟨by simp [h2], hB⟩
  · obtain rfl : b = false := by rw [← hb]; simp [h1]
    clear hb
    have g1 : decide ((n1 : Int) ≤ 50) = false := decide_eq_false (by omega)
    go_enter Try.func9, Try.ntmps9
    go_wp2_with fail
    go_ret
    exact ⟨rfl, hB⟩
end Go.Proofs.Ytfdphpmcgidmiaa

/- The document's own contacts: the same, a copy. -/
namespace Go.Proofs.Ytfdphpmcgidmiaa.Kc
open Go.ChangeShapes Go.WideShapes Go.ChangeAt Go.RowKit Go.Sort
set_option linter.unusedSimpArgs false
set_option linter.unusedVariables false
end Go.Proofs.Ytfdphpmcgidmiaa.Kc

/- The document's own contacts: which stands ahead, Compare, overlap, Find. -/
namespace Go.Proofs.Ytfdphpmcgidmiaa.Kc
open Go.ChangeShapes Go.WideShapes Go.ChangeAt Go.RowKit Go.Sort
set_option linter.unusedSimpArgs false
set_option linter.unusedVariables false
set_option maxHeartbeats 1000000 in
set_option maxRecDepth 100000 in
theorem rless_any (a b : Co) (v : Bool) (hv : decide (cmpC a b < 0) = v) (w : World) : Calls Try.prog 59 #[.agg #[.int .i64 a.id, .int .i64 a.fr, .int .i64 a.tn, .int .i64 a.st, .int .i64 a.en, .int .i64 a.rt], .agg #[.int .i64 b.id, .int .i64 b.fr, .int .i64 b.tn, .int .i64 b.st, .int .i64 b.en, .int .i64 b.rt]] w fun e w' => e = .returned (.bool v) ∧ Below w.heap.size w w' := by
  have hB : Below w.heap.size w ((w.alloc (.cells #[.int .i64 a.id, .int .i64 a.fr, .int .i64 a.tn, .int .i64 a.st, .int .i64 a.en, .int .i64 a.rt] 28)).alloc (.cells #[.int .i64 b.id, .int .i64 b.fr, .int .i64 b.tn, .int .i64 b.st, .int .i64 b.en, .int .i64 b.rt] 28)) := by (repeat (first | exact Below.refl _ _ | refine Below.alloc ?_ (by first | omega | (simp; done) | (simp; omega)) _ | refine Below.setCell ?_ (by first | omega | (simp; done) | (simp; omega)) _ | refine Below.drew ?_))
  have hlt : v = true ↔ ltC a b := by rw [← hv, decide_eq_true_eq]; exact cmpC_lt
  have HV := Lib.hid hlt
  clear hv hlt
  by_cases h1 : a.fr = b.fr
  · have d1 : (a.fr != b.fr) = false := by simp [h1]
    by_cases h2 : a.tn = b.tn
    · have d2 : (a.tn != b.tn) = false := by simp [h2]
      by_cases h3 : a.st = b.st
      · have d3 : (a.st != b.st) = false := by simp [h3]
        have hr : v = decide (a.id < b.id) := by rw [Bool.eq_iff_iff, HV.out, decide_eq_true_eq]; unfold ltC; omega
        have HR := Lib.hid hr
        clear hr h1 h2 h3
        go_enter Try.func59, Try.ntmps59
        go_wp2
        go_ret
        exact ⟨by rw [HR.out]; rfl, hB⟩
      · have d3 : (a.st != b.st) = true := by simp [h3]
        have hr : v = decide (a.st < b.st) := by rw [Bool.eq_iff_iff, HV.out, decide_eq_true_eq]; unfold ltC; omega
        have HR := Lib.hid hr
        clear hr h1 h2 h3
        go_enter Try.func59, Try.ntmps59
        go_wp2
        go_ret
        exact ⟨by rw [HR.out]; rfl, hB⟩
    · have d2 : (a.tn != b.tn) = true := by simp [h2]
      have hr : v = decide (a.tn < b.tn) := by rw [Bool.eq_iff_iff, HV.out, decide_eq_true_eq]; unfold ltC; omega
      have HR := Lib.hid hr
      clear hr h1 h2
      go_enter Try.func59, Try.ntmps59
      go_wp2
      go_ret
      exact ⟨by rw [HR.out]; rfl, hB⟩
  · have d1 : (a.fr != b.fr) = true := by simp [h1]
    have hr : v = decide (a.fr < b.fr) := by rw [Bool.eq_iff_iff, HV.out, decide_eq_true_eq]; unfold ltC; omega
    have HR := Lib.hid hr
    clear hr h1
    go_enter Try.func59, Try.ntmps59
    go_wp2
    go_ret
    exact ⟨by rw [HR.out]; rfl, hB⟩
set_option maxHeartbeats 1000000 in
set_option maxRecDepth 100000 in
theorem roverlap_any (a b : Co) (v : Bool) (hv : overC a b = v) (w : World) : Calls Try.prog 60 #[.agg #[.int .i64 a.id, .int .i64 a.fr, .int .i64 a.tn, .int .i64 a.st, .int .i64 a.en, .int .i64 a.rt], .agg #[.int .i64 b.id, .int .i64 b.fr, .int .i64 b.tn, .int .i64 b.st, .int .i64 b.en, .int .i64 b.rt]] w fun e w' => e = .returned (.bool v) ∧ Below w.heap.size w w' := by
  have hB : Below w.heap.size w ((w.alloc (.cells #[.int .i64 a.id, .int .i64 a.fr, .int .i64 a.tn, .int .i64 a.st, .int .i64 a.en, .int .i64 a.rt] 28)).alloc (.cells #[.int .i64 b.id, .int .i64 b.fr, .int .i64 b.tn, .int .i64 b.st, .int .i64 b.en, .int .i64 b.rt] 28)) := by (repeat (first | exact Below.refl _ _ | refine Below.alloc ?_ (by first | omega | (simp; done) | (simp; omega)) _ | refine Below.setCell ?_ (by first | omega | (simp; done) | (simp; omega)) _ | refine Below.drew ?_))
  have HV := Lib.hid hv
  clear hv
  by_cases h1 : a.fr = b.fr <;> by_cases h2 : a.tn = b.tn <;> by_cases h3 : a.st < b.en <;> by_cases h4 : b.st < a.en
  all_goals
    have hr : v = decide (a.fr = b.fr ∧ a.tn = b.tn ∧ a.st < b.en ∧ b.st < a.en) := HV.out.symm
    simp only [h1, h2, h3, h4, and_true, and_false, and_self, decide_true, decide_false, false_and, true_and] at hr
    have d1 : (a.fr == b.fr) = decide (a.fr = b.fr) := by rw [Bool.eq_iff_iff]; simp
    have d2 : (a.tn == b.tn) = decide (a.tn = b.tn) := by rw [Bool.eq_iff_iff]; simp
    obtain ⟨p3, d3⟩ : ∃ p, decide (a.st < b.en) = p := ⟨_, rfl⟩
    obtain ⟨p4, d4⟩ : ∃ p, decide (b.st < a.en) = p := ⟨_, rfl⟩
    have e3 := d3
    have e4 := d4
    simp only [h1, h2, decide_true, decide_false] at d1 d2
    simp only [h3, h4, decide_true, decide_false] at e3 e4
    subst e3 e4
    have HR := Lib.hid hr
    have H1 := Lib.hid h1
    have H2 := Lib.hid h2
    clear hr h1 h2 h3 h4
    go_enter Try.func60, Try.ntmps60
    go_wp2
    go_ret
    have h1 := H1.out
    have h2 := H2.out
    exact ⟨by rw [HR.out]; first | rfl | simp [*], by first | exact hB | (rw [h1] at hB; exact hB) | (rw [h2] at hB; exact hB) | (rw [h1, h2] at hB; exact hB)⟩
theorem foundC_at {d : List Co} {id : Int} {i : Nat} (hi : i < d.length) (h : (gCo d i).id = id) (hn : ∀ j, j < i → (gCo d j).id ≠ id) : foundC d id = gCo d i ∧ idIn d id = true := by
  have hg : gCo d i = d[i] := gCo_eq hi
  refine ⟨?_, ?_⟩
  · unfold foundC
    have : d.find? (fun x => x.id == id) = some d[i] := by
      rw [List.find?_eq_some_iff_getElem]
      refine ⟨by rw [← hg]; simp [h], i, hi, rfl, fun j hj => ?_⟩
      have hjl : j < d.length := by omega
      have := hn j hj
      rw [gCo_eq hjl] at this
      simpa using this
    rw [this, hg]; rfl
  · unfold idIn
    rw [List.any_eq_true]
    exact ⟨d[i], List.getElem_mem hi, by rw [← hg]; simp [h]⟩
theorem foundC_none {d : List Co} {id : Int} (hn : ∀ j, j < d.length → (gCo d j).id ≠ id) : foundC d id = ⟨0, 0, 0, 0, 0, 0⟩ ∧ idIn d id = false := by
  have hall : ∀ x ∈ d, ¬ (x.id == id) = true := fun x hx => by
    obtain ⟨j, hj, rfl⟩ := List.mem_iff_getElem.1 hx
    have := hn j hj
    rw [gCo_eq hj] at this
    simpa using this
  refine ⟨?_, ?_⟩
  · unfold foundC
    rw [List.find?_eq_none.2 hall]; rfl
  · unfold idIn
    rw [List.any_eq_false]
    exact hall
end Go.Proofs.Ytfdphpmcgidmiaa.Kc

/- The document's own contacts: Right. -/
namespace Go.Proofs.Ytfdphpmcgidmiaa.Kc
open Go.ChangeShapes Go.WideShapes Go.ChangeAt Go.RowKit Go.Sort
set_option linter.unusedSimpArgs false
set_option linter.unusedVariables false
/-- What the document's Right asks of two places. -/
def pairC (d : List Co) (i k : Nat) : Bool := !((gCo d k).id == (gCo d i).id) && !overC (gCo d k) (gCo d i)
def rstC (d : List Co) (i : Nat) : Bool := okC (gCo d i) && (i == 0 || decide (cmpC (gCo d (i - 1)) (gCo d i) < 0)) && (List.range i).all (pairC d i)
theorem overC_false_of {a b : Co} (ha : okC a = true) (h : a.fr = b.fr → a.tn = b.tn → a.en ≤ b.st) : overC a b = false := by
  unfold overC
  rw [decide_eq_false_iff_not]
  rintro ⟨e1, e2, e3, e4⟩
  have := h e1 e2
  omega
theorem rst_of_right {d : List Co} (h : rightC d = true) {i : Nat} (hi : i < d.length) : rstC d i = true := by
  obtain ⟨h1, h2, h3⟩ := right_step h hi
  unfold rstC
  rw [h1, Bool.true_and, Bool.and_eq_true, List.all_eq_true]
  refine ⟨?_, fun k hk => ?_⟩
  · by_cases h0 : i = 0
    · simp [h0]
    · have := cmpC_lt.2 (h3 h0).1
      simp [this]
  · have hb := right_bef h i k (List.mem_range.1 hk) hi
    have hki : k < d.length := Nat.lt_trans (List.mem_range.1 hk) hi
    unfold pairC
    rw [overC_false_of (right_step h hki).1 hb.2.2]
    simp [hb.2.1]
theorem right_of_rst {d : List Co} (hn : d.length ≤ 4096) (h : ∀ i, i < d.length → rstC d i = true) : rightC d = true := by
  rw [rightC_true]
  refine ⟨hn, fun i hi => ?_⟩
  have h0 := h i hi
  unfold rstC at h0
  rw [Bool.and_eq_true, Bool.and_eq_true, List.all_eq_true] at h0
  obtain ⟨⟨h1, h2⟩, h3⟩ := h0
  unfold stepC
  rw [h1, Bool.true_and]
  have hid : idIn (d.take i) (gCo d i).id = false := by
    unfold idIn
    rw [List.any_eq_false]
    intro x hx
    obtain ⟨j, hj, rfl⟩ := List.mem_take_iff_getElem.1 hx
    have := h3 j (List.mem_range.2 (by omega))
    unfold pairC at this
    rw [Bool.and_eq_true] at this
    rw [gCo_eq (by omega : j < d.length)] at this
    simpa using this.1
  rw [hid]
  by_cases hz : i = 0
  · simp [hz]
  · have hp := h3 (i - 1) (List.mem_range.2 (by omega))
    unfold pairC at hp
    rw [Bool.and_eq_true] at hp
    have hl : decide (cmpC (gCo d (i - 1)) (gCo d i) < 0) = true := by simpa [hz] using h2
    rw [hl]
    simpa [hz] using hp.2
theorem right_false_rst {d : List Co} {i : Nat} (hi : i < d.length) (h : rstC d i = false) : rightC d = false := by
  rw [Bool.eq_false_iff]
  intro e
  rw [rst_of_right e hi] at h
  cases h
theorem rst_pair {d : List Co} {i k : Nat} (hk : k < i) (h : pairC d i k = false) : rstC d i = false := by
  rw [Bool.eq_false_iff]
  intro e
  unfold rstC at e
  rw [Bool.and_eq_true, List.all_eq_true] at e
  rw [e.2 k (List.mem_range.2 hk)] at h
  cases h
set_option maxHeartbeats 8000000 in
set_option maxRecDepth 100000 in
theorem rright6_any (A : Option Addr) (n c : Nat) (d : List Co) (w : World) (hd : d.length = n) (hn : n ≤ 1000000) (h : Sl w w.heap.size 6 A n c (flatCo d)) (b : Bool) (hb : rightC d = b) :
    Calls Try.prog 31 #[.slice A n c] w fun e w' => e = .returned (.bool b) ∧ Below w.heap.size w w' := by
  have HD := Lib.hid hd
  have HL := Lib.hid h
  have HB := Lib.hid hb
  clear hd h hb
  go_enter Try.func31, Try.ntmps31
  go_wp2
  go_loopw [3] (fun iv wr => ∃ i : Nat, iv = .int .i64 i ∧ i ≤ n ∧ Hid (∀ j, j < i → rstC d j = true) ∧ Below w.heap.size w wr) (fun iv _ => n - (intOf iv).toNat)
  case atStart => exact ⟨0, rfl, by omega, (fun j hj => by omega), Below.refl _ _⟩
  case round =>
    obtain ⟨i, rfl, hi, HQ, hB⟩ := hrel
    by_cases hin : i < n
    · obtain ⟨ad, rfl, hab, c0, c1, c2, c3, c4, c5⟩ := (HL.out.below hB).lst.atCo HD.out hin
      obtain ⟨x, hx⟩ : ∃ x, gCo d i = x := ⟨_, rfl⟩
      rw [hx] at c0 c1 c2 c3 c4 c5
      have HX := Lib.hid hx
      have hs := hB.size
      clear hx
      obtain ⟨ok, hok⟩ : ∃ ok, okC x = ok := ⟨_, rfl⟩
      have HOK := Lib.hid hok
      clear hok
      go_wp2_with fail
      refine (rcontact_is ok (show contactB x.id x.fr x.tn x.st x.en x.rt = ok from HOK.out) wr).mono ?_
      rintro e w3 ⟨rfl, hb3⟩
      replace hB := hB.trans (hb3.mono hs)
      clear hb3 hs c0 c1 c2 c3 c4 c5
      have hs := hB.size
      obtain ⟨ae, he, _, c0, c1, c2, c3, c4, c5⟩ := (HL.out.below hB).lst.atCo HD.out hin
      injection he with he
      subst he
      rw [HX.out] at c0 c1 c2 c3 c4 c5
      cases ok
      · have hf : b = false := by rw [← HB.out]; exact right_false_rst (i := i) (by rw [HD.out]; exact hin) (by unfold rstC; rw [HX.out, HOK.out]; rfl)
        have HF := Lib.hid hf
        clear hf
        go_wp2_with fail
        have q_c0 := fun d os => cell_regrown c0 d os
        have q_c1 := fun d os => cell_regrown c1 d os
        have q_c2 := fun d os => cell_regrown c2 d os
        have q_c3 := fun d os => cell_regrown c3 d os
        have q_c4 := fun d os => cell_regrown c4 d os
        have q_c5 := fun d os => cell_regrown c5 d os
        try simp only [List.append]
        first | refine wp_region_text_below ?_ | refine wp_region_quiet_below (by kernel_rfl) (by kernel_rfl) ?_
        repeat (go_big_quiet_step ((fail)))
        refine wpQuiet_nil ?_
        intro _ hqw
        obtain ⟨pq, hqw⟩ := hqw
        subst hqw
        clear q_c0 q_c1 q_c2 q_c3 q_c4 q_c5
        have hbq := hB.trans ((below_regrown w3 pq.d pq.os).mono hB.size)
        clear c0 c1 c2 c3 c4 c5
        generalize grow (redrawn w3 pq.d) pq.os = wq at *
        go_wp2_with fail
        go_ret
        exact ⟨by rw [HF.out]; rfl, hbq⟩
      · have hcase : i = 0 ∨ ∃ p, i = p + 1 := by cases i with | zero => exact .inl rfl | succ p => exact .inr ⟨p, rfl⟩
        rcases hcase with rfl | ⟨p, rfl⟩
        · have hd0 : decide (((0 : Nat) : Int) > 0) = false := by simp
          have HST : Hid (rstC d 0 = true) := by
            show rstC d 0 = true
            unfold rstC; rw [HX.out, HOK.out]; rfl
          try simp only [Int.natCast_zero]
          go_wp2_with fail
          have q_c0 := fun d os => cell_regrown c0 d os
          have q_c1 := fun d os => cell_regrown c1 d os
          have q_c2 := fun d os => cell_regrown c2 d os
          have q_c3 := fun d os => cell_regrown c3 d os
          have q_c4 := fun d os => cell_regrown c4 d os
          have q_c5 := fun d os => cell_regrown c5 d os
          try simp only [List.append]
          first | refine wp_region_text_below ?_ | refine wp_region_quiet_below (by kernel_rfl) (by kernel_rfl) ?_
          repeat (go_big_quiet_step ((fail)))
          refine wpQuiet_nil ?_
          intro _ hqw
          obtain ⟨pq, hqw⟩ := hqw
          subst hqw
          clear q_c0 q_c1 q_c2 q_c3 q_c4 q_c5
          have hbq := hB.trans ((below_regrown w3 pq.d pq.os).mono hB.size)
          clear c0 c1 c2 c3 c4 c5
          generalize grow (redrawn w3 pq.d) pq.os = wq at *
          go_wp2_with fail
          go_loopw [5] (fun kv wx => kv = .int .i64 0 ∧ wq = wx) (fun _ _ => 1)
          case atStart => exact ⟨rfl, rfl⟩
          case round =>
            obtain ⟨rfl, rfl⟩ := hrel
            go_wp2_with fail
            go_roundw
            case rel => exact ⟨1, by go_num, by omega, (fun j hj => by obtain rfl : j = 0 := by omega
                                                                       exact HST.out), hbq⟩
            case measure => simp [intOf]; omega
        · have hpn : p < n := by omega
          obtain ⟨af, hf, _, p0, p1, p2, p3, p4, p5⟩ := (HL.out.below hB).lst.atCo HD.out hpn
          injection hf with hf
          subst hf
          obtain ⟨y, hy⟩ : ∃ y, gCo d p = y := ⟨_, rfl⟩
          rw [hy] at p0 p1 p2 p3 p4 p5
          have HY := Lib.hid hy
          have hwr : IntKind.i64.wrap (((p + 1 : Nat) : Int) - 1) = (p : Int) := by rw [show ((p + 1 : Nat) : Int) - 1 = (p : Int) by omega]; exact IntWalk.i64_in _ (by omega)
          have hwr2 : IntKind.i64.wrap ((p : Int) + 1 - 1) = (p : Int) := by rw [show (p : Int) + 1 - 1 = (p : Int) by omega]; exact IntWalk.i64_in _ (by omega)
          have hgt : decide ((((p + 1 : Nat)) : Int) > 0) = true := decide_eq_true (by omega)
          have hpI : (p : Int) < (n : Int) := by omega
          have hp0 : (0 : Int) ≤ (p : Int) := by omega
          obtain ⟨lt, hlt⟩ : ∃ lt, decide (cmpC y x < 0) = lt := ⟨_, rfl⟩
          have HLT := Lib.hid hlt
          clear hy hlt
          cases lt
          · have hf : b = false := by rw [← HB.out]; exact right_false_rst (i := p + 1) (by rw [HD.out]; exact hin) (by unfold rstC; rw [HX.out, HOK.out, Nat.add_sub_cancel, HY.out, HLT.out]; rfl)
            have HF := Lib.hid hf
            clear hf
            go_wp2_with fail
            have q_c0 := fun d os => cell_regrown c0 d os
            have q_c1 := fun d os => cell_regrown c1 d os
            have q_c2 := fun d os => cell_regrown c2 d os
            have q_c3 := fun d os => cell_regrown c3 d os
            have q_c4 := fun d os => cell_regrown c4 d os
            have q_c5 := fun d os => cell_regrown c5 d os
            have q_p0 := fun d os => cell_regrown p0 d os
            have q_p1 := fun d os => cell_regrown p1 d os
            have q_p2 := fun d os => cell_regrown p2 d os
            have q_p3 := fun d os => cell_regrown p3 d os
            have q_p4 := fun d os => cell_regrown p4 d os
            have q_p5 := fun d os => cell_regrown p5 d os
            try simp only [List.append]
            first | refine wp_region_text_below ?_ | refine wp_region_quiet_below (by kernel_rfl) (by kernel_rfl) ?_
            repeat (go_big_quiet_step (((go_at_call 59; with_reducible exact Calls.regrown_of (rless_any y x _ HLT.out _)))))
            refine wpQuiet_nil ?_
            intro _ hqw
            obtain ⟨pq, hqw⟩ := hqw
            subst hqw
            clear q_c0 q_c1 q_c2 q_c3 q_c4 q_c5 q_p0 q_p1 q_p2 q_p3 q_p4 q_p5
            have hbq := hB.trans ((below_regrown w3 pq.d pq.os).mono hB.size)
            clear c0 c1 c2 c3 c4 c5 p0 p1 p2 p3 p4 p5
            generalize grow (redrawn w3 pq.d) pq.os = wq at *
            go_wp2_with fail
            go_ret
            exact ⟨by rw [HF.out]; rfl, hbq⟩
          · have HP1 : Hid (∀ k : Nat, (∀ j, j < p + 1 → pairC d (p + 1) j = true) → rstC d (p + 1) = true) := fun _ hh => by
              unfold rstC
              rw [HX.out, HOK.out, Nat.add_sub_cancel, HY.out, HLT.out]
              rw [Bool.and_eq_true, List.all_eq_true]
              exact ⟨by simp, fun k hk => hh k (List.mem_range.1 hk)⟩
            go_wp2_with fail
            have q_c0 := fun d os => cell_regrown c0 d os
            have q_c1 := fun d os => cell_regrown c1 d os
            have q_c2 := fun d os => cell_regrown c2 d os
            have q_c3 := fun d os => cell_regrown c3 d os
            have q_c4 := fun d os => cell_regrown c4 d os
            have q_c5 := fun d os => cell_regrown c5 d os
            have q_p0 := fun d os => cell_regrown p0 d os
            have q_p1 := fun d os => cell_regrown p1 d os
            have q_p2 := fun d os => cell_regrown p2 d os
            have q_p3 := fun d os => cell_regrown p3 d os
            have q_p4 := fun d os => cell_regrown p4 d os
            have q_p5 := fun d os => cell_regrown p5 d os
            try simp only [List.append]
            first | refine wp_region_text_below ?_ | refine wp_region_quiet_below (by kernel_rfl) (by kernel_rfl) ?_
            repeat (go_big_quiet_step (((go_at_call 59; with_reducible exact Calls.regrown_of (rless_any y x _ HLT.out _)))))
            refine wpQuiet_nil ?_
            intro _ hqw
            obtain ⟨pq, hqw⟩ := hqw
            subst hqw
            clear q_c0 q_c1 q_c2 q_c3 q_c4 q_c5 q_p0 q_p1 q_p2 q_p3 q_p4 q_p5
            have hbq := hB.trans ((below_regrown w3 pq.d pq.os).mono hB.size)
            clear c0 c1 c2 c3 c4 c5 p0 p1 p2 p3 p4 p5
            generalize grow (redrawn w3 pq.d) pq.os = wq at *
            clear hB hs hwr hwr2 hgt hpI hp0 hpn
            go_wp2_with fail
            go_loopw [5] (fun kv wx => ∃ k : Nat, kv = .int .i64 k ∧ k ≤ p + 1 ∧ Hid (∀ j, j < k → pairC d (p + 1) j = true) ∧ Below w.heap.size w wx) (fun kv _ => p + 1 - (intOf kv).toNat)
            case atStart => exact ⟨0, rfl, by omega, (fun j hj => by omega), hbq⟩
            case round =>
              obtain ⟨k, rfl, hk, HK, hB⟩ := hrel
              by_cases hkp : k < p + 1
              · obtain ⟨ae, he, _, c0, c1, c2, c3, c4, c5⟩ := (HL.out.below hB).lst.atCo HD.out hin
                injection he with he
                subst he
                rw [HX.out] at c0 c1 c2 c3 c4 c5
                have hkn : k < n := by omega
                obtain ⟨af, hf, _, p0, p1, p2, p3, p4, p5⟩ := (HL.out.below hB).lst.atCo HD.out hkn
                injection hf with hf
                subst hf
                obtain ⟨z, hz⟩ : ∃ z, gCo d k = z := ⟨_, rfl⟩
                rw [hz] at p0 p1 p2 p3 p4 p5
                have HZ := Lib.hid hz
                clear hz
                by_cases hid : z.id = x.id
                · have g1 : (z.id == x.id) = true := beq_iff_eq.2 hid
                  have hf : b = false := by rw [← HB.out]; exact right_false_rst (i := p + 1) (by rw [HD.out]; exact hin) (rst_pair hkp (by unfold pairC; rw [HX.out, HZ.out, g1]; rfl))
                  have HF := Lib.hid hf
                  clear hf hid
                  go_wp2_with fail
                  have q_c0 := fun d os => cell_regrown c0 d os
                  have q_c1 := fun d os => cell_regrown c1 d os
                  have q_c2 := fun d os => cell_regrown c2 d os
                  have q_c3 := fun d os => cell_regrown c3 d os
                  have q_c4 := fun d os => cell_regrown c4 d os
                  have q_c5 := fun d os => cell_regrown c5 d os
                  have q_p0 := fun d os => cell_regrown p0 d os
                  have q_p1 := fun d os => cell_regrown p1 d os
                  have q_p2 := fun d os => cell_regrown p2 d os
                  have q_p3 := fun d os => cell_regrown p3 d os
                  have q_p4 := fun d os => cell_regrown p4 d os
                  have q_p5 := fun d os => cell_regrown p5 d os
                  try simp only [List.append]
                  first | refine wp_region_text_below ?_ | refine wp_region_quiet_below (by kernel_rfl) (by kernel_rfl) ?_
                  repeat (go_big_quiet_step ((fail)))
                  refine wpQuiet_nil ?_
                  intro _ hqw
                  obtain ⟨pq, hqw⟩ := hqw
                  subst hqw
                  clear q_c0 q_c1 q_c2 q_c3 q_c4 q_c5 q_p0 q_p1 q_p2 q_p3 q_p4 q_p5
                  have hbq2 := hB.trans ((below_regrown wr pq.d pq.os).mono hB.size)
                  clear c0 c1 c2 c3 c4 c5 p0 p1 p2 p3 p4 p5
                  generalize grow (redrawn wr pq.d) pq.os = wy at *
                  go_wp2_with fail
                  go_ret
                  exact ⟨by rw [HF.out]; rfl, hbq2⟩
                · have g1 : (z.id == x.id) = false := beq_eq_false_iff_ne.2 hid
                  obtain ⟨ov, hov⟩ : ∃ ov, overC z x = ov := ⟨_, rfl⟩
                  have HOV := Lib.hid hov
                  clear hov hid
                  cases ov
                  · have HK2 : Hid (∀ j, j < k + 1 → pairC d (p + 1) j = true) := fun j hj => by
                      by_cases e : j = k
                      · subst e
                        unfold pairC
                        rw [HX.out, HZ.out, g1, HOV.out]; rfl
                      · exact HK.out j (by omega)
                    go_wp2_with fail
                    have q_c0 := fun d os => cell_regrown c0 d os
                    have q_c1 := fun d os => cell_regrown c1 d os
                    have q_c2 := fun d os => cell_regrown c2 d os
                    have q_c3 := fun d os => cell_regrown c3 d os
                    have q_c4 := fun d os => cell_regrown c4 d os
                    have q_c5 := fun d os => cell_regrown c5 d os
                    have q_p0 := fun d os => cell_regrown p0 d os
                    have q_p1 := fun d os => cell_regrown p1 d os
                    have q_p2 := fun d os => cell_regrown p2 d os
                    have q_p3 := fun d os => cell_regrown p3 d os
                    have q_p4 := fun d os => cell_regrown p4 d os
                    have q_p5 := fun d os => cell_regrown p5 d os
                    try simp only [List.append]
                    first | refine wp_region_text_below ?_ | refine wp_region_quiet_below (by kernel_rfl) (by kernel_rfl) ?_
                    repeat (go_big_quiet_step (((go_at_call 60; with_reducible exact Calls.regrown_of (roverlap_any z x _ HOV.out _)))))
                    refine wpQuiet_nil ?_
                    intro _ hqw
                    obtain ⟨pq, hqw⟩ := hqw
                    subst hqw
                    clear q_c0 q_c1 q_c2 q_c3 q_c4 q_c5 q_p0 q_p1 q_p2 q_p3 q_p4 q_p5
                    have hbq2 := hB.trans ((below_regrown wr pq.d pq.os).mono hB.size)
                    clear c0 c1 c2 c3 c4 c5 p0 p1 p2 p3 p4 p5
                    generalize grow (redrawn wr pq.d) pq.os = wy at *
                    go_wp2_with fail
                    go_roundw
                    case rel => exact ⟨k + 1, by go_num, by omega, HK2, hbq2⟩
                    case measure => simp [intOf]; omega
                  · have hf : b = false := by rw [← HB.out]; exact right_false_rst (i := p + 1) (by rw [HD.out]; exact hin) (rst_pair hkp (by unfold pairC; rw [HX.out, HZ.out, g1, HOV.out]; rfl))
                    have HF := Lib.hid hf
                    clear hf
                    go_wp2_with fail
                    have q_c0 := fun d os => cell_regrown c0 d os
                    have q_c1 := fun d os => cell_regrown c1 d os
                    have q_c2 := fun d os => cell_regrown c2 d os
                    have q_c3 := fun d os => cell_regrown c3 d os
                    have q_c4 := fun d os => cell_regrown c4 d os
                    have q_c5 := fun d os => cell_regrown c5 d os
                    have q_p0 := fun d os => cell_regrown p0 d os
                    have q_p1 := fun d os => cell_regrown p1 d os
                    have q_p2 := fun d os => cell_regrown p2 d os
                    have q_p3 := fun d os => cell_regrown p3 d os
                    have q_p4 := fun d os => cell_regrown p4 d os
                    have q_p5 := fun d os => cell_regrown p5 d os
                    try simp only [List.append]
                    first | refine wp_region_text_below ?_ | refine wp_region_quiet_below (by kernel_rfl) (by kernel_rfl) ?_
                    repeat (go_big_quiet_step (((go_at_call 60; with_reducible exact Calls.regrown_of (roverlap_any z x _ HOV.out _)))))
                    refine wpQuiet_nil ?_
                    intro _ hqw
                    obtain ⟨pq, hqw⟩ := hqw
                    subst hqw
                    clear q_c0 q_c1 q_c2 q_c3 q_c4 q_c5 q_p0 q_p1 q_p2 q_p3 q_p4 q_p5
                    have hbq2 := hB.trans ((below_regrown wr pq.d pq.os).mono hB.size)
                    clear c0 c1 c2 c3 c4 c5 p0 p1 p2 p3 p4 p5
                    generalize grow (redrawn wr pq.d) pq.os = wy at *
                    go_wp2_with fail
                    go_ret
                    exact ⟨by rw [HF.out]; rfl, hbq2⟩
              · obtain rfl : k = p + 1 := by omega
                have HRS : Hid (∀ j, j < p + 1 + 1 → rstC d j = true) := fun j hj => by
                  by_cases e : j = p + 1
                  · subst e; exact HP1.out 0 HK.out
                  · exact HQ.out j (by omega)
                go_wp2_with fail
                go_roundw
                case rel => exact ⟨p + 1 + 1, by go_num, by omega, HRS, hB⟩
                case measure => simp [intOf]; omega
    · obtain rfl : i = n := by omega
      by_cases h4 : i ≤ 4096
      · have hb1 : b = true := by rw [← HB.out]; exact right_of_rst (by rw [HD.out]; exact h4) (fun j hj => HQ.out j (by rw [HD.out] at hj; exact hj))
        have HB1 := Lib.hid hb1
        clear hb1
        have h4i : decide ((i : Int) ≤ 4096) = true := decide_eq_true (by omega)
        go_wp2_with fail
        go_ret
        exact ⟨by rw [HB1.out]; rfl, hB⟩
      · have hb1 : b = false := by
          rw [← HB.out, Bool.eq_false_iff]
          intro e
          have := (rightC_true.1 e).1
          rw [HD.out] at this
          omega
        have HB1 := Lib.hid hb1
        clear hb1
        have h4i : decide ((i : Int) ≤ 4096) = false := decide_eq_false (by omega)
        go_wp2_with fail
        go_ret
        exact ⟨by rw [HB1.out]; rfl, hB⟩
end Go.Proofs.Ytfdphpmcgidmiaa.Kc

/- The document's own ranges: which stands ahead, overlap, Right, Owlt. -/
namespace Go.Proofs.Ytfdphpmcgidmiaa.Kr
open Go.ChangeShapes Go.WideShapes Go.ChangeAt Go.RowKit Go.Sort
set_option linter.unusedSimpArgs false
set_option linter.unusedVariables false
set_option maxHeartbeats 1000000 in
set_option maxRecDepth 100000 in
theorem rless_any (a b : Rg) (v : Bool) (hv : decide (cmpR a b < 0) = v) (w : World) : Calls Try.prog 62 #[.agg #[.int .i64 a.fr, .int .i64 a.tn, .int .i64 a.st, .int .i64 a.en, .int .i64 a.ow], .agg #[.int .i64 b.fr, .int .i64 b.tn, .int .i64 b.st, .int .i64 b.en, .int .i64 b.ow]] w fun e w' => e = .returned (.bool v) ∧ Below w.heap.size w w' := by
  have hB : Below w.heap.size w ((w.alloc (.cells #[.int .i64 a.fr, .int .i64 a.tn, .int .i64 a.st, .int .i64 a.en, .int .i64 a.ow] 59)).alloc (.cells #[.int .i64 b.fr, .int .i64 b.tn, .int .i64 b.st, .int .i64 b.en, .int .i64 b.ow] 59)) := by (repeat (first | exact Below.refl _ _ | refine Below.alloc ?_ (by first | omega | (simp; done) | (simp; omega)) _ | refine Below.setCell ?_ (by first | omega | (simp; done) | (simp; omega)) _ | refine Below.drew ?_))
  have hlt : v = true ↔ ltR a b := by
    rw [← hv, decide_eq_true_eq]
    rcases cmpR_spec a b with h | h | h
    · exact ⟨fun _ => h.1, fun _ => by omega⟩
    · refine ⟨fun h2 => by omega, fun h2 => ?_⟩
      unfold ltR at h2; omega
    · refine ⟨fun h2 => by omega, fun h2 => ?_⟩
      have h3 := h.1
      unfold ltR at h2 h3; omega
  have HV := Lib.hid hlt
  clear hv hlt
  by_cases h1 : a.fr = b.fr
  · have d1 : (a.fr != b.fr) = false := by simp [h1]
    by_cases h2 : a.tn = b.tn
    · have d2 : (a.tn != b.tn) = false := by simp [h2]
      have hr : v = decide (a.st < b.st) := by rw [Bool.eq_iff_iff, HV.out, decide_eq_true_eq]; unfold ltR; omega
      have HR := Lib.hid hr
      clear hr h1 h2
      go_enter Try.func62, Try.ntmps62
      go_wp2
      go_ret
      exact ⟨by rw [HR.out]; rfl, hB⟩
    · have d2 : (a.tn != b.tn) = true := by simp [h2]
      have hr : v = decide (a.tn < b.tn) := by rw [Bool.eq_iff_iff, HV.out, decide_eq_true_eq]; unfold ltR; omega
      have HR := Lib.hid hr
      clear hr h1 h2
      go_enter Try.func62, Try.ntmps62
      go_wp2
      go_ret
      exact ⟨by rw [HR.out]; rfl, hB⟩
  · have d1 : (a.fr != b.fr) = true := by simp [h1]
    have hr : v = decide (a.fr < b.fr) := by rw [Bool.eq_iff_iff, HV.out, decide_eq_true_eq]; unfold ltR; omega
    have HR := Lib.hid hr
    clear hr h1
    go_enter Try.func62, Try.ntmps62
    go_wp2
    go_ret
    exact ⟨by rw [HR.out]; rfl, hB⟩
set_option maxHeartbeats 1000000 in
set_option maxRecDepth 100000 in
theorem roverlap_any (a b : Rg) (v : Bool) (hv : overR a b = v) (w : World) : Calls Try.prog 63 #[.agg #[.int .i64 a.fr, .int .i64 a.tn, .int .i64 a.st, .int .i64 a.en, .int .i64 a.ow], .agg #[.int .i64 b.fr, .int .i64 b.tn, .int .i64 b.st, .int .i64 b.en, .int .i64 b.ow]] w fun e w' => e = .returned (.bool v) ∧ Below w.heap.size w w' := by
  have hB : Below w.heap.size w ((w.alloc (.cells #[.int .i64 a.fr, .int .i64 a.tn, .int .i64 a.st, .int .i64 a.en, .int .i64 a.ow] 59)).alloc (.cells #[.int .i64 b.fr, .int .i64 b.tn, .int .i64 b.st, .int .i64 b.en, .int .i64 b.ow] 59)) := by (repeat (first | exact Below.refl _ _ | refine Below.alloc ?_ (by first | omega | (simp; done) | (simp; omega)) _ | refine Below.setCell ?_ (by first | omega | (simp; done) | (simp; omega)) _ | refine Below.drew ?_))
  have HV := Lib.hid hv
  clear hv
  by_cases h1 : a.fr = b.fr <;> by_cases h2 : a.tn = b.tn <;> by_cases h3 : a.st < b.en <;> by_cases h4 : b.st < a.en
  all_goals
    have hr : v = decide (a.fr = b.fr ∧ a.tn = b.tn ∧ a.st < b.en ∧ b.st < a.en) := HV.out.symm
    simp only [h1, h2, h3, h4, and_true, and_false, and_self, decide_true, decide_false, false_and, true_and] at hr
    have d1 : (a.fr == b.fr) = decide (a.fr = b.fr) := by rw [Bool.eq_iff_iff]; simp
    have d2 : (a.tn == b.tn) = decide (a.tn = b.tn) := by rw [Bool.eq_iff_iff]; simp
    obtain ⟨p3, d3⟩ : ∃ p, decide (a.st < b.en) = p := ⟨_, rfl⟩
    obtain ⟨p4, d4⟩ : ∃ p, decide (b.st < a.en) = p := ⟨_, rfl⟩
    have e3 := d3
    have e4 := d4
    simp only [h1, h2, decide_true, decide_false] at d1 d2
    simp only [h3, h4, decide_true, decide_false] at e3 e4
    subst e3 e4
    have HR := Lib.hid hr
    have H1 := Lib.hid h1
    have H2 := Lib.hid h2
    clear hr h1 h2 h3 h4
    go_enter Try.func63, Try.ntmps63
    go_wp2
    go_ret
    have h1 := H1.out
    have h2 := H2.out
    exact ⟨by rw [HR.out]; first | rfl | simp [*], by first | exact hB | (rw [h1] at hB; exact hB) | (rw [h2] at hB; exact hB) | (rw [h1, h2] at hB; exact hB)⟩
/-- What the document's Right asks of two places. -/
def pairR (d : List Rg) (i k : Nat) : Bool := !overR (gRg d k) (gRg d i)
def rstR (d : List Rg) (i : Nat) : Bool := okR (gRg d i) && (i == 0 || decide (cmpR (gRg d (i - 1)) (gRg d i) < 0)) && (List.range i).all (pairR d i)
theorem rst_of_right {d : List Rg} (h : rightB d = true) {i : Nat} (hi : i < d.length) : rstR d i = true := by
  have hs := (rightB_true.1 h).2 i hi
  unfold stepB at hs
  rw [Bool.and_eq_true] at hs
  unfold rstR
  rw [hs.1, Bool.true_and, Bool.and_eq_true, List.all_eq_true]
  refine ⟨?_, fun k hk => ?_⟩
  · by_cases h0 : i = 0
    · simp [h0]
    · have h2 := hs.2
      simp [h0] at h2
      simp [h2.1]
  · have hb := (sort_of_right h).at_ (List.mem_range.1 hk) hi
    unfold pairR overR
    rw [Bool.not_eq_true', decide_eq_false_iff_not]
    rintro ⟨e1, e2, e3, e4⟩
    have := hb.2 e1 e2
    omega
theorem right_of_rst {d : List Rg} (hn : d.length ≤ 4096) (h : ∀ i, i < d.length → rstR d i = true) : rightB d = true := by
  rw [rightB_true]
  refine ⟨hn, fun i hi => ?_⟩
  have h0 := h i hi
  unfold rstR at h0
  rw [Bool.and_eq_true, Bool.and_eq_true, List.all_eq_true] at h0
  obtain ⟨⟨h1, h2⟩, h3⟩ := h0
  unfold stepB
  rw [h1, Bool.true_and]
  by_cases hz : i = 0
  · simp [hz]
  · have hp := h3 (i - 1) (List.mem_range.2 (by omega))
    unfold pairR at hp
    have hl : decide (cmpR (gRg d (i - 1)) (gRg d i) < 0) = true := by simpa [hz] using h2
    rw [hl, hp]
    simp
theorem right_false_rst {d : List Rg} {i : Nat} (hi : i < d.length) (h : rstR d i = false) : rightB d = false := by
  rw [Bool.eq_false_iff]
  intro e
  rw [rst_of_right e hi] at h
  cases h
theorem rst_pair {d : List Rg} {i k : Nat} (hk : k < i) (h : pairR d i k = false) : rstR d i = false := by
  rw [Bool.eq_false_iff]
  intro e
  unfold rstR at e
  rw [Bool.and_eq_true, List.all_eq_true] at e
  rw [e.2 k (List.mem_range.2 hk)] at h
  cases h
theorem rrange_b {fr tn st en ow : Int} (b : Bool) (h : rangeB fr tn st en ow = b) (w : World) :
    Calls Try.prog 61 #[.agg #[.int .i64 fr, .int .i64 tn, .int .i64 st, .int .i64 en, .int .i64 ow]] w fun e w' => e = .returned (.bool b) ∧ Below w.heap.size w w' := h ▸ rrange_any fr tn st en ow w
set_option maxHeartbeats 8000000 in
set_option maxRecDepth 100000 in
theorem rright7_any (A : Option Addr) (n c : Nat) (d : List Rg) (w : World) (hd : d.length = n) (hn : n ≤ 1000000) (h : Sl w w.heap.size 5 A n c (flatRg d)) (b : Bool) (hb : rightB d = b) :
    Calls Try.prog 32 #[.slice A n c] w fun e w' => e = .returned (.bool b) ∧ Below w.heap.size w w' := by
  have HD := Lib.hid hd
  have HL := Lib.hid h
  have HB := Lib.hid hb
  clear hd h hb
  go_enter Try.func32, Try.ntmps32
  go_wp2
  go_loopw [3] (fun iv wr => ∃ i : Nat, iv = .int .i64 i ∧ i ≤ n ∧ Hid (∀ j, j < i → rstR d j = true) ∧ Below w.heap.size w wr) (fun iv _ => n - (intOf iv).toNat)
  case atStart => exact ⟨0, rfl, by omega, (fun j hj => by omega), Below.refl _ _⟩
  case round =>
    obtain ⟨i, rfl, hi, HQ, hB⟩ := hrel
    by_cases hin : i < n
    · obtain ⟨ad, rfl, hab, c0, c1, c2, c3, c4⟩ := (HL.out.below hB).lst.atRg HD.out hin
      obtain ⟨x, hx⟩ : ∃ x, gRg d i = x := ⟨_, rfl⟩
      rw [hx] at c0 c1 c2 c3 c4
      have HX := Lib.hid hx
      have hs := hB.size
      clear hx
      obtain ⟨ok, hok⟩ : ∃ ok, okR x = ok := ⟨_, rfl⟩
      have HOK := Lib.hid hok
      clear hok
      go_wp2_with fail
      refine (rrange_b ok (show rangeB x.fr x.tn x.st x.en x.ow = ok from HOK.out) wr).mono ?_
      rintro e w3 ⟨rfl, hb3⟩
      replace hB := hB.trans (hb3.mono hs)
      clear hb3 hs c0 c1 c2 c3 c4
      have hs := hB.size
      obtain ⟨ae, he, _, c0, c1, c2, c3, c4⟩ := (HL.out.below hB).lst.atRg HD.out hin
      injection he with he
      subst he
      rw [HX.out] at c0 c1 c2 c3 c4
      cases ok
      · have hf : b = false := by rw [← HB.out]; exact right_false_rst (i := i) (by rw [HD.out]; exact hin) (by unfold rstR; rw [HX.out, HOK.out]; rfl)
        have HF := Lib.hid hf
        clear hf
        go_wp2_with fail
        have q_c0 := fun d os => cell_regrown c0 d os
        have q_c1 := fun d os => cell_regrown c1 d os
        have q_c2 := fun d os => cell_regrown c2 d os
        have q_c3 := fun d os => cell_regrown c3 d os
        have q_c4 := fun d os => cell_regrown c4 d os
        try simp only [List.append]
        first | refine wp_region_text_below ?_ | refine wp_region_quiet_below (by kernel_rfl) (by kernel_rfl) ?_
        repeat (go_big_quiet_step ((fail)))
        refine wpQuiet_nil ?_
        intro _ hqw
        obtain ⟨pq, hqw⟩ := hqw
        subst hqw
        clear q_c0 q_c1 q_c2 q_c3 q_c4
        have hbq := hB.trans ((below_regrown w3 pq.d pq.os).mono hB.size)
        clear c0 c1 c2 c3 c4
        generalize grow (redrawn w3 pq.d) pq.os = wq at *
        go_wp2_with fail
        go_ret
        exact ⟨by rw [HF.out]; rfl, hbq⟩
      · have hcase : i = 0 ∨ ∃ p, i = p + 1 := by cases i with | zero => exact .inl rfl | succ p => exact .inr ⟨p, rfl⟩
        rcases hcase with rfl | ⟨p, rfl⟩
        · have hd0 : decide (((0 : Nat) : Int) > 0) = false := by simp
          have HST : Hid (rstR d 0 = true) := by
            show rstR d 0 = true
            unfold rstR; rw [HX.out, HOK.out]; rfl
          try simp only [Int.natCast_zero]
          go_wp2_with fail
          have q_c0 := fun d os => cell_regrown c0 d os
          have q_c1 := fun d os => cell_regrown c1 d os
          have q_c2 := fun d os => cell_regrown c2 d os
          have q_c3 := fun d os => cell_regrown c3 d os
          have q_c4 := fun d os => cell_regrown c4 d os
          try simp only [List.append]
          first | refine wp_region_text_below ?_ | refine wp_region_quiet_below (by kernel_rfl) (by kernel_rfl) ?_
          repeat (go_big_quiet_step ((fail)))
          refine wpQuiet_nil ?_
          intro _ hqw
          obtain ⟨pq, hqw⟩ := hqw
          subst hqw
          clear q_c0 q_c1 q_c2 q_c3 q_c4
          have hbq := hB.trans ((below_regrown w3 pq.d pq.os).mono hB.size)
          clear c0 c1 c2 c3 c4
          generalize grow (redrawn w3 pq.d) pq.os = wq at *
          go_wp2_with fail
          go_loopw [5] (fun kv wx => kv = .int .i64 0 ∧ wq = wx) (fun _ _ => 1)
          case atStart => exact ⟨rfl, rfl⟩
          case round =>
            obtain ⟨rfl, rfl⟩ := hrel
            go_wp2_with fail
            go_roundw
            case rel => exact ⟨1, by go_num, by omega, (fun j hj => by obtain rfl : j = 0 := by omega
                                                                       exact HST.out), hbq⟩
            case measure => simp [intOf]; omega
        · have hpn : p < n := by omega
          obtain ⟨af, hf, _, p0, p1, p2, p3, p4⟩ := (HL.out.below hB).lst.atRg HD.out hpn
          injection hf with hf
          subst hf
          obtain ⟨y, hy⟩ : ∃ y, gRg d p = y := ⟨_, rfl⟩
          rw [hy] at p0 p1 p2 p3 p4
          have HY := Lib.hid hy
          have hwr : IntKind.i64.wrap (((p + 1 : Nat) : Int) - 1) = (p : Int) := by rw [show ((p + 1 : Nat) : Int) - 1 = (p : Int) by omega]; exact IntWalk.i64_in _ (by omega)
          have hwr2 : IntKind.i64.wrap ((p : Int) + 1 - 1) = (p : Int) := by rw [show (p : Int) + 1 - 1 = (p : Int) by omega]; exact IntWalk.i64_in _ (by omega)
          have hgt : decide ((((p + 1 : Nat)) : Int) > 0) = true := decide_eq_true (by omega)
          have hpI : (p : Int) < (n : Int) := by omega
          have hp0 : (0 : Int) ≤ (p : Int) := by omega
          obtain ⟨lt, hlt⟩ : ∃ lt, decide (cmpR y x < 0) = lt := ⟨_, rfl⟩
          have HLT := Lib.hid hlt
          clear hy hlt
          cases lt
          · have hf : b = false := by rw [← HB.out]; exact right_false_rst (i := p + 1) (by rw [HD.out]; exact hin) (by unfold rstR; rw [HX.out, HOK.out, Nat.add_sub_cancel, HY.out, HLT.out]; rfl)
            have HF := Lib.hid hf
            clear hf
            go_wp2_with fail
            have q_c0 := fun d os => cell_regrown c0 d os
            have q_c1 := fun d os => cell_regrown c1 d os
            have q_c2 := fun d os => cell_regrown c2 d os
            have q_c3 := fun d os => cell_regrown c3 d os
            have q_c4 := fun d os => cell_regrown c4 d os
            have q_p0 := fun d os => cell_regrown p0 d os
            have q_p1 := fun d os => cell_regrown p1 d os
            have q_p2 := fun d os => cell_regrown p2 d os
            have q_p3 := fun d os => cell_regrown p3 d os
            have q_p4 := fun d os => cell_regrown p4 d os
            try simp only [List.append]
            first | refine wp_region_text_below ?_ | refine wp_region_quiet_below (by kernel_rfl) (by kernel_rfl) ?_
            repeat (go_big_quiet_step (((go_at_call 62; with_reducible exact Calls.regrown_of (rless_any y x _ HLT.out _)))))
            refine wpQuiet_nil ?_
            intro _ hqw
            obtain ⟨pq, hqw⟩ := hqw
            subst hqw
            clear q_c0 q_c1 q_c2 q_c3 q_c4 q_p0 q_p1 q_p2 q_p3 q_p4
            have hbq := hB.trans ((below_regrown w3 pq.d pq.os).mono hB.size)
            clear c0 c1 c2 c3 c4 p0 p1 p2 p3 p4
            generalize grow (redrawn w3 pq.d) pq.os = wq at *
            go_wp2_with fail
            go_ret
            exact ⟨by rw [HF.out]; rfl, hbq⟩
          · have HP1 : Hid (∀ k : Nat, (∀ j, j < p + 1 → pairR d (p + 1) j = true) → rstR d (p + 1) = true) := fun _ hh => by
              unfold rstR
              rw [HX.out, HOK.out, Nat.add_sub_cancel, HY.out, HLT.out]
              rw [Bool.and_eq_true, List.all_eq_true]
              exact ⟨by simp, fun k hk => hh k (List.mem_range.1 hk)⟩
            go_wp2_with fail
            have q_c0 := fun d os => cell_regrown c0 d os
            have q_c1 := fun d os => cell_regrown c1 d os
            have q_c2 := fun d os => cell_regrown c2 d os
            have q_c3 := fun d os => cell_regrown c3 d os
            have q_c4 := fun d os => cell_regrown c4 d os
            have q_p0 := fun d os => cell_regrown p0 d os
            have q_p1 := fun d os => cell_regrown p1 d os
            have q_p2 := fun d os => cell_regrown p2 d os
            have q_p3 := fun d os => cell_regrown p3 d os
            have q_p4 := fun d os => cell_regrown p4 d os
            try simp only [List.append]
            first | refine wp_region_text_below ?_ | refine wp_region_quiet_below (by kernel_rfl) (by kernel_rfl) ?_
            repeat (go_big_quiet_step (((go_at_call 62; with_reducible exact Calls.regrown_of (rless_any y x _ HLT.out _)))))
            refine wpQuiet_nil ?_
            intro _ hqw
            obtain ⟨pq, hqw⟩ := hqw
            subst hqw
            clear q_c0 q_c1 q_c2 q_c3 q_c4 q_p0 q_p1 q_p2 q_p3 q_p4
            have hbq := hB.trans ((below_regrown w3 pq.d pq.os).mono hB.size)
            clear c0 c1 c2 c3 c4 p0 p1 p2 p3 p4
            generalize grow (redrawn w3 pq.d) pq.os = wq at *
            clear hB hs hwr hwr2 hgt hpI hp0 hpn
            go_wp2_with fail
            go_loopw [5] (fun kv wx => ∃ k : Nat, kv = .int .i64 k ∧ k ≤ p + 1 ∧ Hid (∀ j, j < k → pairR d (p + 1) j = true) ∧ Below w.heap.size w wx) (fun kv _ => p + 1 - (intOf kv).toNat)
            case atStart => exact ⟨0, rfl, by omega, (fun j hj => by omega), hbq⟩
            case round =>
              obtain ⟨k, rfl, hk, HK, hB⟩ := hrel
              by_cases hkp : k < p + 1
              · obtain ⟨ae, he, _, c0, c1, c2, c3, c4⟩ := (HL.out.below hB).lst.atRg HD.out hin
                injection he with he
                subst he
                rw [HX.out] at c0 c1 c2 c3 c4
                have hkn : k < n := by omega
                obtain ⟨af, hf, _, p0, p1, p2, p3, p4⟩ := (HL.out.below hB).lst.atRg HD.out hkn
                injection hf with hf
                subst hf
                obtain ⟨z, hz⟩ : ∃ z, gRg d k = z := ⟨_, rfl⟩
                rw [hz] at p0 p1 p2 p3 p4
                have HZ := Lib.hid hz
                clear hz
                obtain ⟨ov, hov⟩ : ∃ ov, overR z x = ov := ⟨_, rfl⟩
                have HOV := Lib.hid hov
                clear hov
                go_wp2_with fail
                have q_c0 := fun d os => cell_regrown c0 d os
                have q_c1 := fun d os => cell_regrown c1 d os
                have q_c2 := fun d os => cell_regrown c2 d os
                have q_c3 := fun d os => cell_regrown c3 d os
                have q_c4 := fun d os => cell_regrown c4 d os
                have q_p0 := fun d os => cell_regrown p0 d os
                have q_p1 := fun d os => cell_regrown p1 d os
                have q_p2 := fun d os => cell_regrown p2 d os
                have q_p3 := fun d os => cell_regrown p3 d os
                have q_p4 := fun d os => cell_regrown p4 d os
                try simp only [List.append]
                first | refine wp_region_text_below ?_ | refine wp_region_quiet_below (by kernel_rfl) (by kernel_rfl) ?_
                repeat (go_big_quiet_step (((go_at_call 63; with_reducible exact Calls.regrown_of (roverlap_any z x _ HOV.out _)))))
                refine wpQuiet_nil ?_
                intro _ hqw
                obtain ⟨pq, hqw⟩ := hqw
                subst hqw
                clear q_c0 q_c1 q_c2 q_c3 q_c4 q_p0 q_p1 q_p2 q_p3 q_p4
                have hbq2 := hB.trans ((below_regrown wr pq.d pq.os).mono hB.size)
                clear c0 c1 c2 c3 c4 p0 p1 p2 p3 p4 hB
                generalize grow (redrawn wr pq.d) pq.os = wy at *
                have hB := hbq2
                clear hbq2
                cases ov
                · have HK2 : Hid (∀ j, j < k + 1 → pairR d (p + 1) j = true) := fun j hj => by
                    by_cases e : j = k
                    · subst e
                      unfold pairR
                      rw [HX.out, HZ.out, HOV.out]; rfl
                    · exact HK.out j (by omega)
                  go_wp2_with fail
                  go_roundw
                  case rel => exact ⟨k + 1, by go_num, by omega, HK2, hB⟩
                  case measure => simp [intOf]; omega
                · have hf : b = false := by rw [← HB.out]; exact right_false_rst (i := p + 1) (by rw [HD.out]; exact hin) (rst_pair hkp (by unfold pairR; rw [HX.out, HZ.out, HOV.out]; rfl))
                  have HF := Lib.hid hf
                  clear hf
                  go_wp2_with fail
                  go_ret
                  exact ⟨by rw [HF.out]; rfl, hB⟩
              · obtain rfl : k = p + 1 := by omega
                have HRS : Hid (∀ j, j < p + 1 + 1 → rstR d j = true) := fun j hj => by
                  by_cases e : j = p + 1
                  · subst e; exact HP1.out 0 HK.out
                  · exact HQ.out j (by omega)
                go_wp2_with fail
                go_roundw
                case rel => exact ⟨p + 1 + 1, by go_num, by omega, HRS, hB⟩
                case measure => simp [intOf]; omega
    · obtain rfl : i = n := by omega
      by_cases h4 : i ≤ 4096
      · have hb1 : b = true := by rw [← HB.out]; exact right_of_rst (by rw [HD.out]; exact h4) (fun j hj => HQ.out j (by rw [HD.out] at hj; exact hj))
        have HB1 := Lib.hid hb1
        clear hb1
        have h4i : decide ((i : Int) ≤ 4096) = true := decide_eq_true (by omega)
        go_wp2_with fail
        go_ret
        exact ⟨by rw [HB1.out]; rfl, hB⟩
      · have hb1 : b = false := by
          rw [← HB.out, Bool.eq_false_iff]
          intro e
          have := (rightB_true.1 e).1
          rw [HD.out] at this
          omega
        have HB1 := Lib.hid hb1
        clear hb1
        have h4i : decide ((i : Int) ≤ 4096) = false := decide_eq_false (by omega)
        go_wp2_with fail
        go_ret
        exact ⟨by rw [HB1.out]; rfl, hB⟩
set_option maxHeartbeats 4000000 in
set_option maxRecDepth 100000 in
theorem rowlt_any (A : Option Addr) (n c : Nat) (d : List Rg) (ci cf ct cs ce cr : Int) (w : World) (hd : d.length = n) (hn : n ≤ 1000000) (h : Sl w w.heap.size 5 A n c (flatRg d)) (o : Int) (b : Bool) (ho : ((d.find? (covR cf ct cs ce)).map Rg.ow).getD 0 = o) (hb : (d.find? (covR cf ct cs ce)).isSome = b) :
    Calls Try.prog 37 #[.slice A n c, .agg #[.int .i64 ci, .int .i64 cf, .int .i64 ct, .int .i64 cs, .int .i64 ce, .int .i64 cr]] w fun e w' => e = .returned (.tuple #[.int .i64 o, .bool b]) ∧ Below w.heap.size w w' := by
  have hB0 : Below w.heap.size w (w.alloc (.cells #[.int .i64 ci, .int .i64 cf, .int .i64 ct, .int .i64 cs, .int .i64 ce, .int .i64 cr] 28)) := by (repeat (first | exact Below.refl _ _ | refine Below.alloc ?_ (by first | omega | (simp; done) | (simp; omega)) _ | refine Below.setCell ?_ (by first | omega | (simp; done) | (simp; omega)) _ | refine Below.drew ?_))
  have hC0 := Blok.new w 28 #[.int .i64 ci, .int .i64 cf, .int .i64 ct, .int .i64 cs, .int .i64 ce, .int .i64 cr]
  have HD := Lib.hid hd
  have HL := Lib.hid (h.up hB0)
  have HO := Lib.hid ho
  have HBB := Lib.hid hb
  have HB0 := Lib.hid hB0
  have HC := Lib.hid hC0
  clear hd h ho hb hB0 hC0
  go_enter Try.func37, Try.ntmps37
  go_upto_region 1 with fail
  generalize w.alloc (.cells #[.int .i64 ci, .int .i64 cf, .int .i64 ct, .int .i64 cs, .int .i64 ce, .int .i64 cr] 28) = w1 at *
  go_wp2_with fail
  go_loopw [6] (fun iv wr => ∃ i : Nat, iv = .int .i64 i ∧ i ≤ n ∧ Hid (∀ j, j < i → covR cf ct cs ce (gRg d j) = false) ∧ Below w1.heap.size w1 wr) (fun iv _ => n - (intOf iv).toNat)
  case atStart => exact ⟨0, rfl, by omega, (fun j hj => by omega), Below.refl _ _⟩
  case round =>
    obtain ⟨i, rfl, hi, HQ, hC⟩ := hrel
    by_cases hin : i < n
    · obtain ⟨ad, rfl, hab, c0, c1, c2, c3, c4⟩ := (HL.out.below hC).lst.atRg HD.out hin
      obtain ⟨x, hx⟩ : ∃ x, gRg d i = x := ⟨_, rfl⟩
      rw [hx] at c0 c1 c2 c3 c4
      have HX := Lib.hid hx
      have hg := HC.out.below hC HC.out.lt
      have y1 : wr.cell? ⟨w.heap.size, 1, none⟩ = some (.int .i64 cf) := hg.cell 1
      have y2 : wr.cell? ⟨w.heap.size, 2, none⟩ = some (.int .i64 ct) := hg.cell 2
      have y3 : wr.cell? ⟨w.heap.size, 3, none⟩ = some (.int .i64 cs) := hg.cell 3
      have y4 : wr.cell? ⟨w.heap.size, 4, none⟩ = some (.int .i64 ce) := hg.cell 4
      have lt_y := hg.lt
      clear hx hg hab
      have hw2 : IntKind.i64.wrap ((i : Int) + 1) = (i : Int) + 1 := IntWalk.i64_in _ (by omega)
      by_cases hcov : covR cf ct cs ce x = true
      · have hcc := hcov
        unfold covR at hcc
        rw [decide_eq_true_eq] at hcc
        obtain ⟨k1, k2, k3, k4⟩ := hcc
        have d1 : (x.fr == cf) = true := by simp [k1]
        have d2 : (x.tn == ct) = true := by simp [k2]
        have d3 : decide (x.st ≤ cs) = true := decide_eq_true k3
        have d4 : decide (x.en ≥ ce) = true := decide_eq_true k4
        have d5 : decide (ce ≤ x.en) = true := decide_eq_true k4
        have hf : d.find? (covR cf ct cs ce) = some x := by
          rw [List.find?_eq_some_iff_getElem]
          refine ⟨hcov, i, by rw [HD.out]; exact hin, by rw [← gRg_elem (by rw [HD.out]; exact hin)]; exact HX.out, fun j hj => ?_⟩
          have h := HQ.out j hj
          rw [gRg_elem (by rw [HD.out]; omega)] at h
          simp [h]
        have HF : Hid (o = x.ow ∧ b = true) := ⟨by rw [← HO.out, hf]; rfl, by rw [← HBB.out, hf]; rfl⟩
        clear k1 k2 k3 k4 hf hcov
        go_wp2_with fail
        have q_c0 := fun d os => cell_regrown c0 d os
        have q_c1 := fun d os => cell_regrown c1 d os
        have q_c2 := fun d os => cell_regrown c2 d os
        have q_c3 := fun d os => cell_regrown c3 d os
        have q_c4 := fun d os => cell_regrown c4 d os
        have q_y1 := fun d os => cell_regrown y1 d os
        have q_y2 := fun d os => cell_regrown y2 d os
        have q_y3 := fun d os => cell_regrown y3 d os
        have q_y4 := fun d os => cell_regrown y4 d os
        try simp only [List.append]
        first | refine wp_region_text_below ?_ | refine wp_region_quiet_below (by kernel_rfl) (by kernel_rfl) ?_
        repeat (go_big_quiet_step ((fail)))
        refine wpQuiet_nil ?_
        intro _ hqw
        obtain ⟨pq, hqw⟩ := hqw
        subst hqw
        clear q_c0 q_c1 q_c2 q_c3 q_c4 q_y1 q_y2 q_y3 q_y4
        have hC2 := hC.trans ((below_regrown wr pq.d pq.os).mono hC.size)
        clear c0 c1 c2 c3 c4 y1 y2 y3 y4 lt_y hC
        generalize grow (redrawn wr pq.d) pq.os = wq at *
        obtain ⟨ae, he, _, c0, c1, c2, c3, c4⟩ := (HL.out.below hC2).lst.atRg HD.out hin
        injection he with he
        subst he
        rw [HX.out] at c0 c1 c2 c3 c4
        go_wp2_with fail
        go_ret2
        exact ⟨by (rw [HF.out.1, HF.out.2]; try rfl), HB0.out.trans (hC2.mono HB0.out.size)⟩
      · have hno : covR cf ct cs ce x = false := Bool.eq_false_iff.2 hcov
        have hcc := hcov
        unfold covR at hcc
        rw [decide_eq_true_eq] at hcc
        have HQ2 : Hid (∀ j, j < i + 1 → covR cf ct cs ce (gRg d j) = false) := fun j hj => by
          by_cases e : j = i
          · subst e; rw [HX.out]; exact hno
          · exact HQ.out j (by omega)
        clear hcov hno
        by_cases k1 : x.fr = cf
        · have d1 : (x.fr == cf) = true := by simp [k1]
          by_cases k2 : x.tn = ct
          · have d2 : (x.tn == ct) = true := by simp [k2]
            by_cases k3 : x.st ≤ cs
            · have d3 : decide (x.st ≤ cs) = true := decide_eq_true k3
              have d4 : decide (x.en ≥ ce) = false := decide_eq_false (fun k4 => hcc ⟨k1, k2, k3, k4⟩)
              have d5 : decide (ce ≤ x.en) = false := decide_eq_false (fun k4 => hcc ⟨k1, k2, k3, k4⟩)
              clear k1 k2 k3 hcc
              go_wp2_with fail
              have q_c0 := fun d os => cell_regrown c0 d os
              have q_c1 := fun d os => cell_regrown c1 d os
              have q_c2 := fun d os => cell_regrown c2 d os
              have q_c3 := fun d os => cell_regrown c3 d os
              have q_c4 := fun d os => cell_regrown c4 d os
              have q_y1 := fun d os => cell_regrown y1 d os
              have q_y2 := fun d os => cell_regrown y2 d os
              have q_y3 := fun d os => cell_regrown y3 d os
              have q_y4 := fun d os => cell_regrown y4 d os
              try simp only [List.append]
              first | refine wp_region_text_below ?_ | refine wp_region_quiet_below (by kernel_rfl) (by kernel_rfl) ?_
              repeat (go_big_quiet_step ((fail)))
              refine wpQuiet_nil ?_
              intro _ hqw
              obtain ⟨pq, hqw⟩ := hqw
              subst hqw
              clear q_c0 q_c1 q_c2 q_c3 q_c4 q_y1 q_y2 q_y3 q_y4
              have hC2 := hC.trans ((below_regrown wr pq.d pq.os).mono hC.size)
              clear c0 c1 c2 c3 c4 y1 y2 y3 y4 lt_y hC
              generalize grow (redrawn wr pq.d) pq.os = wq at *
              go_wp2_with fail
              go_roundw
              case rel => exact ⟨i + 1, by go_num, by omega, HQ2, hC2⟩
              case measure => simp [intOf]; omega
            · have d3 : decide (x.st ≤ cs) = false := decide_eq_false k3
              clear k1 k2 k3 hcc
              go_wp2_with fail
              have q_c0 := fun d os => cell_regrown c0 d os
              have q_c1 := fun d os => cell_regrown c1 d os
              have q_c2 := fun d os => cell_regrown c2 d os
              have q_c3 := fun d os => cell_regrown c3 d os
              have q_c4 := fun d os => cell_regrown c4 d os
              have q_y1 := fun d os => cell_regrown y1 d os
              have q_y2 := fun d os => cell_regrown y2 d os
              have q_y3 := fun d os => cell_regrown y3 d os
              have q_y4 := fun d os => cell_regrown y4 d os
              try simp only [List.append]
              first | refine wp_region_text_below ?_ | refine wp_region_quiet_below (by kernel_rfl) (by kernel_rfl) ?_
              repeat (go_big_quiet_step ((fail)))
              refine wpQuiet_nil ?_
              intro _ hqw
              obtain ⟨pq, hqw⟩ := hqw
              subst hqw
              clear q_c0 q_c1 q_c2 q_c3 q_c4 q_y1 q_y2 q_y3 q_y4
              have hC2 := hC.trans ((below_regrown wr pq.d pq.os).mono hC.size)
              clear c0 c1 c2 c3 c4 y1 y2 y3 y4 lt_y hC
              generalize grow (redrawn wr pq.d) pq.os = wq at *
              go_wp2_with fail
              go_roundw
              case rel => exact ⟨i + 1, by go_num, by omega, HQ2, hC2⟩
              case measure => simp [intOf]; omega
          · have d2 : (x.tn == ct) = false := by simp [k2]
            clear k1 k2 hcc
            go_wp2_with fail
            have q_c0 := fun d os => cell_regrown c0 d os
            have q_c1 := fun d os => cell_regrown c1 d os
            have q_c2 := fun d os => cell_regrown c2 d os
            have q_c3 := fun d os => cell_regrown c3 d os
            have q_c4 := fun d os => cell_regrown c4 d os
            have q_y1 := fun d os => cell_regrown y1 d os
            have q_y2 := fun d os => cell_regrown y2 d os
            have q_y3 := fun d os => cell_regrown y3 d os
            have q_y4 := fun d os => cell_regrown y4 d os
            try simp only [List.append]
            first | refine wp_region_text_below ?_ | refine wp_region_quiet_below (by kernel_rfl) (by kernel_rfl) ?_
            repeat (go_big_quiet_step ((fail)))
            refine wpQuiet_nil ?_
            intro _ hqw
            obtain ⟨pq, hqw⟩ := hqw
            subst hqw
            clear q_c0 q_c1 q_c2 q_c3 q_c4 q_y1 q_y2 q_y3 q_y4
            have hC2 := hC.trans ((below_regrown wr pq.d pq.os).mono hC.size)
            clear c0 c1 c2 c3 c4 y1 y2 y3 y4 lt_y hC
            generalize grow (redrawn wr pq.d) pq.os = wq at *
            go_wp2_with fail
            go_roundw
            case rel => exact ⟨i + 1, by go_num, by omega, HQ2, hC2⟩
            case measure => simp [intOf]; omega
        · have d1 : (x.fr == cf) = false := by simp [k1]
          clear k1 hcc
          go_wp2_with fail
          have q_c0 := fun d os => cell_regrown c0 d os
          have q_c1 := fun d os => cell_regrown c1 d os
          have q_c2 := fun d os => cell_regrown c2 d os
          have q_c3 := fun d os => cell_regrown c3 d os
          have q_c4 := fun d os => cell_regrown c4 d os
          have q_y1 := fun d os => cell_regrown y1 d os
          have q_y2 := fun d os => cell_regrown y2 d os
          have q_y3 := fun d os => cell_regrown y3 d os
          have q_y4 := fun d os => cell_regrown y4 d os
          try simp only [List.append]
          first | refine wp_region_text_below ?_ | refine wp_region_quiet_below (by kernel_rfl) (by kernel_rfl) ?_
          repeat (go_big_quiet_step ((fail)))
          refine wpQuiet_nil ?_
          intro _ hqw
          obtain ⟨pq, hqw⟩ := hqw
          subst hqw
          clear q_c0 q_c1 q_c2 q_c3 q_c4 q_y1 q_y2 q_y3 q_y4
          have hC2 := hC.trans ((below_regrown wr pq.d pq.os).mono hC.size)
          clear c0 c1 c2 c3 c4 y1 y2 y3 y4 lt_y hC
          generalize grow (redrawn wr pq.d) pq.os = wq at *
          go_wp2_with fail
          go_roundw
          case rel => exact ⟨i + 1, by go_num, by omega, HQ2, hC2⟩
          case measure => simp [intOf]; omega
    · obtain rfl : i = n := by omega
      have hf : d.find? (covR cf ct cs ce) = none := by
        rw [List.find?_eq_none]
        intro y hy
        obtain ⟨j, hj, rfl⟩ := List.getElem_of_mem hy
        have h := HQ.out j (by rw [← HD.out]; exact hj)
        rw [gRg_elem hj] at h
        simp [h]
      have HF : Hid (o = 0 ∧ b = false) := ⟨by rw [← HO.out, hf]; rfl, by rw [← HBB.out, hf]; rfl⟩
      clear hf
      go_wp2_with fail
      go_ret2
      exact ⟨by (rw [HF.out.1, HF.out.2]; try rfl), HB0.out.trans (hC.mono HB0.out.size)⟩
end Go.Proofs.Ytfdphpmcgidmiaa.Kr

/- The document's own plans: Right. It makes new memory alone. -/
namespace Go.Proofs.Ytfdphpmcgidmiaa
open Go.ChangeShapes Go.WideShapes Go.ChangeAt Go.RowKit Go.Sort
set_option linter.unusedSimpArgs false
set_option linter.unusedVariables false
theorem any_atC {cs : List Co} {clk : Int} {i : Nat} (hi : i < cs.length) (h : (gCo cs i).en ≤ clk) : (cs.any fun x => decide (x.en ≤ clk)) = true := List.any_eq_true.2 ⟨_, gCo_mem hi, decide_eq_true h⟩
theorem any_noC {cs : List Co} {clk : Int} (h : ∀ j, j < cs.length → clk < (gCo cs j).en) : (cs.any fun x => decide (x.en ≤ clk)) = false := by
  rw [List.any_eq_false]
  intro x hx
  obtain ⟨j, hj, rfl⟩ := List.getElem_of_mem hx
  have := h j hj
  rw [gCo_eq hj] at this
  simp; omega
theorem any_atR {cs : List Rg} {clk : Int} {i : Nat} (hi : i < cs.length) (h : (gRg cs i).en ≤ clk) : (cs.any fun x => decide (x.en ≤ clk)) = true := List.any_eq_true.2 ⟨_, gRg_mem hi, decide_eq_true h⟩
theorem any_noR {cs : List Rg} {clk : Int} (h : ∀ j, j < cs.length → clk < (gRg cs j).en) : (cs.any fun x => decide (x.en ≤ clk)) = false := by
  rw [List.any_eq_false]
  intro x hx
  obtain ⟨j, hj, rfl⟩ := List.getElem_of_mem hx
  have := h j hj
  rw [gRg_eq hj] at this
  simp; omega
set_option maxHeartbeats 8000000 in
set_option maxRecDepth 100000 in
theorem rright8_any (A1 : Option Addr) (n1 c1 : Nat) (cs : List Co) (A : Option Addr) (n c : Nat) (rs : List Rg) (clk ver : Int) (w : World) (hd1 : cs.length = n1) (hn1 : n1 ≤ 1000000) (hd : rs.length = n) (hn : n ≤ 1000000) (h1 : Sl w w.heap.size 6 A1 n1 c1 (flatCo cs)) (h : Sl w w.heap.size 5 A n c (flatRg rs)) (b : Bool) (hb : rightP cs rs clk ver = b) :
    Calls Try.prog 10 #[.agg #[.slice A1 n1 c1, .slice A n c, .int .i64 clk, .int .i64 ver]] w fun e w' => e = .returned (.bool b) ∧ Below w.heap.size w w' := by
  have hB : Below w.heap.size w (w.alloc (.cells #[.slice A1 n1 c1, .slice A n c, .int .i64 clk, .int .i64 ver] 25)) := by (repeat (first | exact Below.refl _ _ | refine Below.alloc ?_ (by first | omega | (simp; done) | (simp; omega)) _ | refine Below.setCell ?_ (by first | omega | (simp; done) | (simp; omega)) _ | refine Below.drew ?_))
  have hP := Blok.new w 25 #[.slice A1 n1 c1, .slice A n c, .int .i64 clk, .int .i64 ver]
  replace h1 := h1.up hB
  replace h := h.up hB
  have hs := hB.size
  have HB := Lib.hid hb
  have HD1 := Lib.hid hd1
  have HD := Lib.hid hd
  clear hb hd hd1
  obtain ⟨b1, q1⟩ : ∃ q, Kc.rightC cs = q := ⟨_, rfl⟩
  obtain ⟨b2, q2⟩ : ∃ q, Kr.rightB rs = q := ⟨_, rfl⟩
  obtain ⟨b3, q3⟩ : ∃ q, inB clk 0 2147483647 = q := ⟨_, rfl⟩
  obtain ⟨b4, q4⟩ : ∃ q, inB ver 0 1099511627776 = q := ⟨_, rfl⟩
  obtain ⟨b5, q5⟩ : ∃ q, (cs.any fun x => decide (x.en ≤ clk)) = q := ⟨_, rfl⟩
  obtain ⟨b6, q6⟩ : ∃ q, (rs.any fun x => decide (x.en ≤ clk)) = q := ⟨_, rfl⟩
  have hbb : b = (b1 && (b2 && (b3 && (b4 && (!b5 && !b6))))) := by rw [← HB.out]; unfold rightP aheadC aheadR; rw [q1, q2, q3, q4, q5, q6]
  have Q1 := Lib.hid q1
  have Q2 := Lib.hid q2
  have Q3 := Lib.hid q3
  have Q4 := Lib.hid q4
  have Q5 := Lib.hid q5
  have Q6 := Lib.hid q6
  have HBB := Lib.hid hbb
  clear q1 q2 q3 q4 q5 q6 hbb HB
  go_enter Try.func10, Try.ntmps10
  go_upto_region 1 with fail
  generalize w.alloc (.cells #[.slice A1 n1 c1, .slice A n c, .int .i64 clk, .int .i64 ver] 25) = w0 at *
  have r0 : w0.cell? ⟨w.heap.size, 0, none⟩ = some (.slice A1 n1 c1) := hP.cell 0
  have lt_p := hP.lt
  go_wp2_with fail
  clear r0 lt_p
  refine (Kc.rright6_any A1 n1 c1 cs w0 HD1.out hn1 h1 b1 Q1.out).mono ?_
  rintro e w1 ⟨rfl, hb⟩
  replace h1 := h1.up hb
  replace h := h.up hb
  replace hP := hP.below hb hP.lt
  replace hB := hB.trans (hb.mono hs)
  replace hs := hB.size
  clear hb
  have r1 : w1.cell? ⟨w.heap.size, 1, none⟩ = some (.slice A n c) := hP.cell 1
  have lt_p := hP.lt
  go_wp2_with fail
  clear r1 lt_p
  refine (Kr.rright7_any A n c rs w1 HD.out hn h b2 Q2.out).mono ?_
  rintro e w2 ⟨rfl, hb⟩
  replace h1 := h1.up hb
  replace h := h.up hb
  replace hP := hP.below hb hP.lt
  replace hB := hB.trans (hb.mono hs)
  replace hs := hB.size
  clear hb
  have r0 : w2.cell? ⟨w.heap.size, 0, none⟩ = some (.slice A1 n1 c1) := hP.cell 0
  have r1 : w2.cell? ⟨w.heap.size, 1, none⟩ = some (.slice A n c) := hP.cell 1
  have r2 : w2.cell? ⟨w.heap.size, 2, none⟩ = some (.int .i64 clk) := hP.cell 2
  have r3 : w2.cell? ⟨w.heap.size, 3, none⟩ = some (.int .i64 ver) := hP.cell 3
  have lt_p := hP.lt
  cases b1
  · go_wp2_with fail
    go_ret
    exact ⟨by rw [HBB.out]; rfl, hB⟩
  cases b2
  · go_wp2_with fail
    go_ret
    exact ⟨by rw [HBB.out]; rfl, hB⟩
  have hq3 := Q3.out
  have hq4 := Q4.out
  unfold inB at hq3 hq4
  by_cases k1 : clk < 0
  · have d1 : decide (clk < 0) = true := decide_eq_true k1
    have HF : Hid (b = false) := by show b = false; rw [HBB.out, ← hq3, decide_eq_false (by omega)]; rfl
    clear hq3 hq4 k1
    go_wp2_with fail
    go_ret
    exact ⟨by rw [HF.out]; rfl, hB⟩
  have d1 : decide (clk < 0) = false := decide_eq_false k1
  by_cases k2 : clk > 2147483647
  · have d2 : decide (clk > 2147483647) = true := decide_eq_true k2
    have HF : Hid (b = false) := by show b = false; rw [HBB.out, ← hq3, decide_eq_false (by omega)]; rfl
    clear hq3 hq4 k1 k2
    go_wp2_with fail
    go_ret
    exact ⟨by rw [HF.out]; rfl, hB⟩
  have d2 : decide (clk > 2147483647) = false := decide_eq_false k2
  by_cases k3 : ver < 0
  · have d3 : decide (ver < 0) = true := decide_eq_true k3
    have HF : Hid (b = false) := by show b = false; rw [HBB.out, ← hq4, decide_eq_false (by omega : ¬ (0 ≤ ver ∧ ver ≤ 1099511627776))]; cases b3 <;> rfl
    clear hq3 hq4 k1 k2 k3
    go_wp2_with fail
    go_ret
    exact ⟨by rw [HF.out]; rfl, hB⟩
  have d3 : decide (ver < 0) = false := decide_eq_false k3
  by_cases k4 : ver > 1099511627776
  · have d4 : decide (ver > 1099511627776) = true := decide_eq_true k4
    have HF : Hid (b = false) := by show b = false; rw [HBB.out, ← hq4, decide_eq_false (by omega : ¬ (0 ≤ ver ∧ ver ≤ 1099511627776))]; cases b3 <;> rfl
    clear hq3 hq4 k1 k2 k3 k4
    go_wp2_with fail
    go_ret
    exact ⟨by rw [HF.out]; rfl, hB⟩
  have d4 : decide (ver > 1099511627776) = false := decide_eq_false k4
  have HBC : Hid (b = (!b5 && !b6)) := by
    show b = (!b5 && !b6)
    rw [HBB.out, ← hq3, ← hq4, decide_eq_true (by omega : 0 ≤ clk ∧ clk ≤ 2147483647), decide_eq_true (by omega : 0 ≤ ver ∧ ver ≤ 1099511627776)]
    rfl
  clear hq3 hq4 k1 k2 k3 k4
  go_upto_region 5 with fail
  have H1 := Lib.hid h1
  have H2 := Lib.hid h
  have HP := Lib.hid hP
  clear h1 h hP r0 r1 r2 r3 lt_p
  go_wp2_with fail
  go_loopw [5] (fun iv wr => ∃ i : Nat, iv = .int .i64 i ∧ i ≤ n1 ∧ Hid (∀ j, j < i → clk < (gCo cs j).en) ∧ Below w2.heap.size w2 wr) (fun iv _ => n1 - (intOf iv).toNat)
  case atStart => exact ⟨0, rfl, by omega, (fun j hj => by omega), Below.refl _ _⟩
  case round =>
    obtain ⟨i, rfl, hi, HQ, hC⟩ := hrel
    by_cases hin : i < n1
    · obtain ⟨ad, rfl, hab, c0, c1_, c2, c3, c4, c5⟩ := (H1.out.below hC).lst.atCo HD1.out hin
      obtain ⟨x, hx⟩ : ∃ x, gCo cs i = x := ⟨_, rfl⟩
      rw [hx] at c0 c1_ c2 c3 c4 c5
      have HX := Lib.hid hx
      have hw2 : IntKind.i64.wrap ((i : Int) + 1) = (i : Int) + 1 := IntWalk.i64_in _ (by omega)
      have hg := HP.out.below hC HP.out.lt
      have y0 : wr.cell? ⟨w.heap.size, 0, none⟩ = some (.slice (some ad) n1 c1) := hg.cell 0
      have y2 : wr.cell? ⟨w.heap.size, 2, none⟩ = some (.int .i64 clk) := hg.cell 2
      have lt_p := hg.lt
      clear hx hab hg
      by_cases he : x.en ≤ clk
      · have e1 : decide (x.en ≤ clk) = true := decide_eq_true he
        have HF : Hid (b = false) := by show b = false; rw [HBC.out, ← Q5.out, any_atC (i := i) (by rw [HD1.out]; exact hin) (by rw [HX.out]; exact he)]; rfl
        clear he
        go_wp2_with fail
        have q_c0 := fun d os => cell_regrown c0 d os
        have q_c1_ := fun d os => cell_regrown c1_ d os
        have q_c2 := fun d os => cell_regrown c2 d os
        have q_c3 := fun d os => cell_regrown c3 d os
        have q_c4 := fun d os => cell_regrown c4 d os
        have q_c5 := fun d os => cell_regrown c5 d os
        have q_y0 := fun d os => cell_regrown y0 d os
        have q_y2 := fun d os => cell_regrown y2 d os
        try simp only [List.append]
        first | refine wp_region_text_below ?_ | refine wp_region_quiet_below (by kernel_rfl) (by kernel_rfl) ?_
        repeat (go_big_quiet_step ((fail)))
        refine wpQuiet_nil ?_
        intro _ hqw
        obtain ⟨pq, hqw⟩ := hqw
        subst hqw
        clear q_c0 q_c1_ q_c2 q_c3 q_c4 q_c5 q_y0 q_y2
        have hC2 := hC.trans ((below_regrown wr pq.d pq.os).mono hC.size)
        clear c0 c1_ c2 c3 c4 c5 y0 y2 lt_p hC
        generalize grow (redrawn wr pq.d) pq.os = wq at *
        go_wp2_with fail
        go_ret
        exact ⟨by rw [HF.out]; rfl, hB.trans (hC2.mono hs)⟩
      · have e1 : decide (x.en ≤ clk) = false := decide_eq_false he
        have HQ2 : Hid (∀ j, j < i + 1 → clk < (gCo cs j).en) := fun j hj => by
          by_cases e : j = i
          · subst e; rw [HX.out]; omega
          · exact HQ.out j (by omega)
        clear he
        go_wp2_with fail
        have q_c0 := fun d os => cell_regrown c0 d os
        have q_c1_ := fun d os => cell_regrown c1_ d os
        have q_c2 := fun d os => cell_regrown c2 d os
        have q_c3 := fun d os => cell_regrown c3 d os
        have q_c4 := fun d os => cell_regrown c4 d os
        have q_c5 := fun d os => cell_regrown c5 d os
        have q_y0 := fun d os => cell_regrown y0 d os
        have q_y2 := fun d os => cell_regrown y2 d os
        try simp only [List.append]
        first | refine wp_region_text_below ?_ | refine wp_region_quiet_below (by kernel_rfl) (by kernel_rfl) ?_
        repeat (go_big_quiet_step ((fail)))
        refine wpQuiet_nil ?_
        intro _ hqw
        obtain ⟨pq, hqw⟩ := hqw
        subst hqw
        clear q_c0 q_c1_ q_c2 q_c3 q_c4 q_c5 q_y0 q_y2
        have hC2 := hC.trans ((below_regrown wr pq.d pq.os).mono hC.size)
        clear c0 c1_ c2 c3 c4 c5 y0 y2 lt_p hC
        generalize grow (redrawn wr pq.d) pq.os = wq at *
        go_wp2_with fail
        go_roundw
        case rel => exact ⟨i + 1, by go_num, by omega, HQ2, hC2⟩
        case measure => simp [intOf]; omega
    · obtain rfl : i = n1 := by omega
      have HBD : Hid (b = !b6) := by show b = !b6; rw [HBC.out, ← Q5.out, any_noC (fun j hj => HQ.out j (by rw [← HD1.out]; exact hj))]; rfl
      have hg := HP.out.below hC HP.out.lt
      have y0 : wr.cell? ⟨w.heap.size, 0, none⟩ = some (.slice A1 i c1) := hg.cell 0
      have lt_p := hg.lt
      clear hin hi hg
      go_wp2_with fail
      clear y0 lt_p
      go_loopw [6] (fun iv wr => ∃ k : Nat, iv = .int .i64 k ∧ k ≤ n ∧ Hid (∀ j, j < k → clk < (gRg rs j).en) ∧ Below w2.heap.size w2 wr) (fun iv _ => n - (intOf iv).toNat)
      case atStart => exact ⟨0, rfl, by omega, (fun j hj => by omega), hC⟩
      case round =>
        clear hC
        obtain ⟨k, rfl, hk, HK, hC⟩ := hrel
        by_cases hkn : k < n
        · obtain ⟨ad, rfl, hab, c0, c1_, c2, c3, c4⟩ := (H2.out.below hC).lst.atRg HD.out hkn
          obtain ⟨x, hx⟩ : ∃ x, gRg rs k = x := ⟨_, rfl⟩
          rw [hx] at c0 c1_ c2 c3 c4
          have HX := Lib.hid hx
          have hw2 : IntKind.i64.wrap ((k : Int) + 1) = (k : Int) + 1 := IntWalk.i64_in _ (by omega)
          have hg := HP.out.below hC HP.out.lt
          have y1 : wr.cell? ⟨w.heap.size, 1, none⟩ = some (.slice (some ad) n c) := hg.cell 1
          have y2 : wr.cell? ⟨w.heap.size, 2, none⟩ = some (.int .i64 clk) := hg.cell 2
          have lt_p := hg.lt
          clear hx hab hg
          by_cases he : x.en ≤ clk
          · have e1 : decide (x.en ≤ clk) = true := decide_eq_true he
            have HF : Hid (b = false) := by show b = false; rw [HBD.out, ← Q6.out, any_atR (i := k) (by rw [HD.out]; exact hkn) (by rw [HX.out]; exact he)]; rfl
            clear he
            go_wp2_with fail
            have q_c0 := fun d os => cell_regrown c0 d os
            have q_c1_ := fun d os => cell_regrown c1_ d os
            have q_c2 := fun d os => cell_regrown c2 d os
            have q_c3 := fun d os => cell_regrown c3 d os
            have q_c4 := fun d os => cell_regrown c4 d os
            have q_y1 := fun d os => cell_regrown y1 d os
            have q_y2 := fun d os => cell_regrown y2 d os
            try simp only [List.append]
            first | refine wp_region_text_below ?_ | refine wp_region_quiet_below (by kernel_rfl) (by kernel_rfl) ?_
            repeat (go_big_quiet_step ((fail)))
            refine wpQuiet_nil ?_
            intro _ hqw
            obtain ⟨pq, hqw⟩ := hqw
            subst hqw
            clear q_c0 q_c1_ q_c2 q_c3 q_c4 q_y1 q_y2
            have hC2 := hC.trans ((below_regrown wr pq.d pq.os).mono hC.size)
            clear c0 c1_ c2 c3 c4 y1 y2 lt_p hC
            generalize grow (redrawn wr pq.d) pq.os = wq at *
            go_wp2_with fail
            go_ret
            exact ⟨by rw [HF.out]; rfl, hB.trans (hC2.mono hs)⟩
          · have e1 : decide (x.en ≤ clk) = false := decide_eq_false he
            have HQ2 : Hid (∀ j, j < k + 1 → clk < (gRg rs j).en) := fun j hj => by
              by_cases e : j = k
              · subst e; rw [HX.out]; omega
              · exact HK.out j (by omega)
            clear he
            go_wp2_with fail
            have q_c0 := fun d os => cell_regrown c0 d os
            have q_c1_ := fun d os => cell_regrown c1_ d os
            have q_c2 := fun d os => cell_regrown c2 d os
            have q_c3 := fun d os => cell_regrown c3 d os
            have q_c4 := fun d os => cell_regrown c4 d os
            have q_y1 := fun d os => cell_regrown y1 d os
            have q_y2 := fun d os => cell_regrown y2 d os
            try simp only [List.append]
            first | refine wp_region_text_below ?_ | refine wp_region_quiet_below (by kernel_rfl) (by kernel_rfl) ?_
            repeat (go_big_quiet_step ((fail)))
            refine wpQuiet_nil ?_
            intro _ hqw
            obtain ⟨pq, hqw⟩ := hqw
            subst hqw
            clear q_c0 q_c1_ q_c2 q_c3 q_c4 q_y1 q_y2
            have hC2 := hC.trans ((below_regrown wr pq.d pq.os).mono hC.size)
            clear c0 c1_ c2 c3 c4 y1 y2 lt_p hC
            generalize grow (redrawn wr pq.d) pq.os = wq at *
            go_wp2_with fail
            go_roundw
            case rel => exact ⟨k + 1, by go_num, by omega, HQ2, hC2⟩
            case measure => simp [intOf]; omega
        · obtain rfl : k = n := by omega
          have hg := HP.out.below hC HP.out.lt
          have y1 : wr.cell? ⟨w.heap.size, 1, none⟩ = some (.slice A k c) := hg.cell 1
          have lt_p := hg.lt
          clear hg
          have HF : Hid (b = true) := by show b = true; rw [HBD.out, ← Q6.out, any_noR (fun j hj => HK.out j (by rw [← HD.out]; exact hj))]; rfl
          go_wp2_with fail
          go_ret
          exact ⟨by rw [HF.out]; rfl, hB.trans (hC.mono hs)⟩
end Go.Proofs.Ytfdphpmcgidmiaa

/- The document's own ledger: classes, who has what, the same, a copy. -/
namespace Go.Proofs.Ytfdphpmcgidmiaa.Kb
open Go.ChangeShapes Go.WideShapes Go.ChangeAt Go.RowKit Go.Sort
set_option linter.unusedSimpArgs false
set_option linter.unusedVariables false
theorem rclass_any (cl : Int) (w : World) (b : Bool) (hb : inB cl 0 2 = b) :
    Calls Try.prog 69 #[.int .i64 cl] w fun e w' => e = .returned (.bool b) ∧ w = w' := by
  subst hb
  by_cases h1 : 0 ≤ cl <;> by_cases h2 : cl ≤ 2 <;>
  · go_enter Try.func69, Try.ntmps69
    go_wp2
    go_ret
    exact ⟨by simp [inB, h1, h2] <;> omega, rfl⟩
set_option maxHeartbeats 1000000 in
set_option maxRecDepth 100000 in
theorem rused_any (A : Option Addr) (n c : Nat) (d : List Bk) (id : Int) (w : World) (hd : d.length = n) (hn : n ≤ 1000000) (h : Sl w w.heap.size 4 A n c (flatBk d)) (hs : SortB d) (x : Bk) (hx : rowB d id = x) :
    Calls Try.prog 70 #[.slice A n c, .int .i64 id] w fun e w' => e = .returned (.agg #[.int .i64 x.ua, .int .i64 x.ub, .int .i64 x.uc]) ∧ Below w.heap.size w w' := by
  have hBa : Below w.heap.size w (w.alloc (.cells #[.int .i64 0, .int .i64 0, .int .i64 0] 53)) := by (repeat (first | exact Below.refl _ _ | refine Below.alloc ?_ (by first | omega | (simp; done) | (simp; omega)) _ | refine Below.setCell ?_ (by first | omega | (simp; done) | (simp; omega)) _ | refine Below.drew ?_))
  have hX := Blok.new w 53 #[.int .i64 0, .int .i64 0, .int .i64 0]
  have hl := h.up hBa
  have HD := Lib.hid hd
  have HS := Lib.hid hs
  have HXX := Lib.hid hx
  clear h hd hs hx
  go_enter Try.func70, Try.ntmps70
  go_wp2
  generalize w.alloc (.cells #[.int .i64 0, .int .i64 0, .int .i64 0] 53) = w2 at *
  have HL := Lib.hid hl
  have HX := Lib.hid hX
  have HB := Lib.hid hBa
  clear hl hX hBa
  go_loopw [5] (fun iv wr => ∃ (i : Nat), iv = .int .i64 i ∧ i ≤ n ∧ Hid (∀ j, j < i → (gBk d j).id ≠ id) ∧ w2 = wr) (fun iv _ => n - (intOf iv).toNat)
  case atStart => exact ⟨0, rfl, by omega, fun j hj => by omega, rfl⟩
  case round =>
    obtain ⟨i, rfl, hi, HN, rfl⟩ := hrel
    have hX := HX.out
    have hBa := HB.out
    have r0 : w2.cell? ⟨w.heap.size, 0, none⟩ = some (.int .i64 0) := hX.cell 0
    have r1 : w2.cell? ⟨w.heap.size, 1, none⟩ = some (.int .i64 0) := hX.cell 1
    have r2 : w2.cell? ⟨w.heap.size, 2, none⟩ = some (.int .i64 0) := hX.cell 2
    have f0 := hX.free 0
    have f1 := hX.free 1
    have f2 := hX.free 2
    have hlt := hX.lt
    by_cases hin : i < n
    · obtain ⟨ad, rfl, hab, c0, c1, c2, c3⟩ := HL.out.lst.atBk HD.out hin
      by_cases he : (gBk d i).id = id
      · have hxi : gBk d i = x := by
          have := rowB_mem HS.out (x := gBk d i) (gBk_mem (by rw [HD.out]; exact hin))
          rw [he, HXX.out] at this
          exact this.symm
        have hq : ((gBk d i).id == id) = true := beq_iff_eq.2 he
        rw [hxi] at c0 c1 c2 c3 hq
        have HXB := Lib.hid hX
        clear he hxi HX HB hX
        go_wp2
        have hX := HXB.out
        clear r0 r1 r2
        have hF : Blok (((w2.setCell ⟨w.heap.size, 0, none⟩ (.int .i64 x.ua)).setCell ⟨w.heap.size, 1, none⟩ (.int .i64 x.ub)).setCell ⟨w.heap.size, 2, none⟩ (.int .i64 x.uc)) w.heap.size 53 #[.int .i64 x.ua, .int .i64 x.ub, .int .i64 x.uc] := by have h := (((hX.set_ 0 (.int .i64 x.ua)).set_ 1 (.int .i64 x.ub)).set_ 2 (.int .i64 x.uc)); simpa using h
        have hle0 : w.heap.size ≤ w.heap.size := by first | exact Nat.le_refl _ | omega
        have hWf : Below w.heap.size w (((w2.setCell ⟨w.heap.size, 0, none⟩ (.int .i64 x.ua)).setCell ⟨w.heap.size, 1, none⟩ (.int .i64 x.ub)).setCell ⟨w.heap.size, 2, none⟩ (.int .i64 x.uc)) := (((hBa.setCell (p := ⟨w.heap.size, 0, none⟩) hle0 (.int .i64 x.ua)).setCell (p := ⟨w.heap.size, 1, none⟩) hle0 (.int .i64 x.ub)).setCell (p := ⟨w.heap.size, 2, none⟩) hle0 (.int .i64 x.uc))
        have hlF := hF.lt
        generalize (((w2.setCell ⟨w.heap.size, 0, none⟩ (.int .i64 x.ua)).setCell ⟨w.heap.size, 1, none⟩ (.int .i64 x.ub)).setCell ⟨w.heap.size, 2, none⟩ (.int .i64 x.uc)) = wf at *
        have r0 : wf.cell? ⟨w.heap.size, 0, none⟩ = some (.int .i64 x.ua) := hF.cell 0
        have r1 : wf.cell? ⟨w.heap.size, 1, none⟩ = some (.int .i64 x.ub) := hF.cell 1
        have r2 : wf.cell? ⟨w.heap.size, 2, none⟩ = some (.int .i64 x.uc) := hF.cell 2
        refine bodyPost_ret (v := .agg #[.int .i64 x.ua, .int .i64 x.ub, .int .i64 x.uc]) (by simp [results, Try.results70, go_sem, r0, r1, r2, hlF]) rfl ?_
        exact ⟨rfl, hWf⟩
      · have hq : ((gBk d i).id == id) = false := beq_eq_false_iff_ne.2 he
        have HN2 : Hid (∀ j, j < i + 1 → (gBk d j).id ≠ id) := fun j hj => by
          by_cases e : j = i
          · subst e; exact he
          · exact HN.out j (by omega)
        clear he hX r0 r1 r2 f0 f1 f2
        go_wp2_with fail
        go_roundw
        case rel => exact ⟨i + 1, by go_num, by omega, HN2, by first | rfl | trivial⟩
        case measure => simp [intOf]; omega
    · have hz : x = ⟨id, 0, 0, 0⟩ := by
        rw [← HXX.out]
        exact rowB_none (fun y hy => by
          obtain ⟨j, hj, rfl⟩ := mem_gBk hy
          exact HN.out j (by rw [HD.out] at hj; omega))
      subst hz
      have HXB := Lib.hid hX
      clear hX HN
      go_wp2
      have hX := HXB.out
      clear r0 r1 r2
      have hF : Blok (((w2.setCell ⟨w.heap.size, 0, none⟩ (.int .i64 0)).setCell ⟨w.heap.size, 1, none⟩ (.int .i64 0)).setCell ⟨w.heap.size, 2, none⟩ (.int .i64 0)) w.heap.size 53 #[.int .i64 0, .int .i64 0, .int .i64 0] := by have h := (((hX.set_ 0 (.int .i64 0)).set_ 1 (.int .i64 0)).set_ 2 (.int .i64 0)); simpa using h
      have hle0 : w.heap.size ≤ w.heap.size := by first | exact Nat.le_refl _ | omega
      have hWf : Below w.heap.size w (((w2.setCell ⟨w.heap.size, 0, none⟩ (.int .i64 0)).setCell ⟨w.heap.size, 1, none⟩ (.int .i64 0)).setCell ⟨w.heap.size, 2, none⟩ (.int .i64 0)) := (((hBa.setCell (p := ⟨w.heap.size, 0, none⟩) hle0 (.int .i64 0)).setCell (p := ⟨w.heap.size, 1, none⟩) hle0 (.int .i64 0)).setCell (p := ⟨w.heap.size, 2, none⟩) hle0 (.int .i64 0))
      have hlF := hF.lt
      generalize (((w2.setCell ⟨w.heap.size, 0, none⟩ (.int .i64 0)).setCell ⟨w.heap.size, 1, none⟩ (.int .i64 0)).setCell ⟨w.heap.size, 2, none⟩ (.int .i64 0)) = wf at *
      have r0 : wf.cell? ⟨w.heap.size, 0, none⟩ = some (.int .i64 0) := hF.cell 0
      have r1 : wf.cell? ⟨w.heap.size, 1, none⟩ = some (.int .i64 0) := hF.cell 1
      have r2 : wf.cell? ⟨w.heap.size, 2, none⟩ = some (.int .i64 0) := hF.cell 2
      refine bodyPost_ret (v := .agg #[.int .i64 0, .int .i64 0, .int .i64 0]) (by simp [results, Try.results70, go_sem, r0, r1, r2, hlF]) rfl ?_
      exact ⟨rfl, hWf⟩
end Go.Proofs.Ytfdphpmcgidmiaa.Kb

/- The document's own ledger: backlog and room. -/
namespace Go.Proofs.Ytfdphpmcgidmiaa.Kb
open Go.ChangeShapes Go.WideShapes Go.ChangeAt Go.RowKit Go.Sort
set_option linter.unusedSimpArgs false
set_option linter.unusedVariables false
def bkA (x : Bk) (c0 : Nat) : Nat → Int
  | 0 => 0
  | k + 1 => if k < c0 then 0 else min (bkA x c0 k) (4611686018427387904 - getU x (k : Int)) + getU x (k : Int)
theorem bkA_next {x : Bk} {c0 k : Nat} (h : c0 ≤ k) : bkA x c0 (k + 1) = min (bkA x c0 k) (4611686018427387904 - getU x (k : Int)) + getU x (k : Int) := by
  rw [bkA, if_neg (by omega)]
theorem bkA_start (x : Bk) (c0 : Nat) : bkA x c0 c0 = 0 := by
  cases c0 with
  | zero => rfl
  | succ c => rw [bkA, if_pos (by omega)]
theorem bkA_ok {x : Bk} (h : okU x) (c0 : Nat) : ∀ k, 0 ≤ bkA x c0 k ∧ bkA x c0 k ≤ 4611686018427387904
  | 0 => by simp [bkA]
  | k + 1 => by
    have ih := bkA_ok h c0 k
    have hu := getU_ok h (k : Int)
    rw [bkA]
    split
    · simp
    · omega
theorem back_bkA {x : Bk} (h : okU x) {c0 : Nat} (hc : c0 ≤ 2) : backF x (c0 : Int) = bkA x c0 3 := by
  obtain ⟨a0, a1, b0, b1, e0, e1⟩ := h
  rcases (by omega : c0 = 0 ∨ c0 = 1 ∨ c0 = 2) with rfl | rfl | rfl
  · simp [backF, bkA, capAdd, getU]; omega
  · simp [backF, bkA, capAdd, getU]; omega
  · simp [backF, bkA, capAdd, getU]; omega
set_option maxHeartbeats 2000000 in
set_option maxRecDepth 100000 in
theorem rbacklog_any (A : Option Addr) (n c : Nat) (d : List Bk) (id cl : Int) (w : World) (hd : d.length = n) (hn : n ≤ 1000000) (h : Sl w w.heap.size 4 A n c (flatBk d)) (hs : SortB d) (x : Bk) (hx : rowB d id = x) (hok : okU x) (v : Int) (hv : backF x cl = v) :
    Calls Try.prog 40 #[.slice A n c, .int .i64 id, .int .i64 cl] w fun e w' => e = .returned (.int .i64 v) ∧ Below w.heap.size w w' := by
  cases hc : inB cl 0 2 with
  | false =>
    have hv0 : v = 0 := by
      rw [← hv]
      unfold inB at hc
      simp at hc
      unfold backF
      rw [if_neg (by omega), if_neg (by omega), if_neg (by omega)]
    subst hv0
    have HC := Lib.hid hc
    clear hc
    go_enter Try.func40, Try.ntmps40
    go_wp2_with fail
    refine (rclass_any cl w false HC.out).mono ?_
    rintro e w1 ⟨rfl, rfl⟩
    go_wp2
    go_ret
    exact ⟨rfl, Below.refl _ _⟩
  | true =>
    obtain ⟨c0, rfl, hc0⟩ : ∃ c0 : Nat, cl = c0 ∧ c0 ≤ 2 := by
      unfold inB at hc
      simp at hc
      exact ⟨cl.toNat, by omega, by omega⟩
    have hvs : v = bkA x c0 3 := by rw [← hv]; exact back_bkA hok hc0
    have hb := bkA_ok hok c0
    have HU := Lib.hid (rused_any A n c d id w hd hn h hs x hx)
    have HC := Lib.hid hc
    have HV := Lib.hid hvs
    have HBK := Lib.hid hb
    have HST := Lib.hid (bkA_start x c0)
    obtain ⟨a0, a1, b0, b1, e0, e1⟩ := hok
    clear hc hv hvs hx hs h hd hb
    go_enter Try.func40, Try.ntmps40
    go_wp2_with fail
    refine (rclass_any (c0 : Int) w true HC.out).mono ?_
    rintro e w1 ⟨rfl, rfl⟩
    go_wp2_with fail
    refine HU.out.mono ?_
    rintro e w2 ⟨rfl, hB⟩
    have hX := Blok.new w2 53 #[.int .i64 x.ua, .int .i64 x.ub, .int .i64 x.uc]
    have hB3 : Below w.heap.size w (w2.alloc (.cells #[.int .i64 x.ua, .int .i64 x.ub, .int .i64 x.uc] 53)) := hB.alloc hB.size _
    go_wp2_with fail
    generalize w2.alloc (.cells #[.int .i64 x.ua, .int .i64 x.ub, .int .i64 x.uc] 53) = w3 at *
    generalize w2.heap.size = bb at *
    have HX := Lib.hid hX
    have HB3 := Lib.hid hB3
    clear hX hB HU hB3
    go_loopw [8, 9] (fun tv iv wr => ∃ k : Nat, iv = .int .i64 k ∧ c0 ≤ k ∧ k ≤ 3 ∧ tv = .int .i64 (bkA x c0 k) ∧ Below w3.heap.size w3 wr) (fun _ iv _ => 3 - (intOf iv).toNat)
    case atStart => exact ⟨c0, rfl, by omega, by omega, by rw [HST.out], Below.refl _ _⟩
    case round =>
      obtain ⟨k, rfl, hck, hk3, rfl, hb⟩ := hrel
      have hXr := HX.out.below hb HX.out.lt
      have x0 : wr.cell? ⟨bb, 0, none⟩ = some (.int .i64 x.ua) := hXr.cell 0
      have x1 : wr.cell? ⟨bb, 1, none⟩ = some (.int .i64 x.ub) := hXr.cell 1
      have x2 : wr.cell? ⟨bb, 2, none⟩ = some (.int .i64 x.uc) := hXr.cell 2
      have hlt := hXr.lt
      clear hXr
      by_cases hk : k < 3
      · obtain ⟨t0, t1⟩ := HBK.out k
        have hnx := bkA_next (x := x) hck
        obtain ⟨t, ht⟩ : ∃ t, bkA x c0 k = t := ⟨_, rfl⟩
        rw [ht] at t0 t1 hnx ⊢
        have HNX := Lib.hid hnx
        clear ht hnx
        rcases (by omega : k = 0 ∨ k = 1 ∨ k = 2) with rfl | rfl | rfl
        · have hw1 : IntKind.i64.wrap (4611686018427387904 - x.ua) = 4611686018427387904 - x.ua := IntWalk.i64_in _ (by omega)
          have hw2 : IntKind.i64.wrap (min t (4611686018427387904 - x.ua) + x.ua) = min t (4611686018427387904 - x.ua) + x.ua := IntWalk.i64_in _ (by omega)
          have hmm : (if t ≤ 4611686018427387904 - x.ua then t else 4611686018427387904 - x.ua) = min t (4611686018427387904 - x.ua) := by split <;> omega
          try simp only [Int.natCast_zero, Int.natCast_one]
          go_wp2_with fail
          have q_x0 := fun d os => cell_regrown x0 d os
          have q_x1 := fun d os => cell_regrown x1 d os
          have q_x2 := fun d os => cell_regrown x2 d os
          try simp only [List.append]
          first | refine wp_region_text_below ?_ | refine wp_region_quiet_below (by kernel_rfl) (by kernel_rfl) ?_
          repeat (go_big_quiet_step ((fail)))
          refine wpQuiet_nil ?_
          intro _ hqw
          obtain ⟨pq, hqw⟩ := hqw
          subst hqw
          clear q_x0 q_x1 q_x2
          have hbq := hb.trans ((below_regrown wr pq.d pq.os).mono hb.size)
          clear x0 x1 x2 hlt hw1 hw2 hmm
          generalize grow (redrawn wr pq.d) pq.os = wq at *
          go_wp2_with fail
          go_roundw
          case rel => exact ⟨1, by go_num, by omega, by omega, by first | (rw [HNX.out]; simp [getU]; done) | (rw [HNX.out]; simp [getU]; omega) | (rw [HNX.out]; congr 1; simp [getU]; split <;> omega), hbq⟩
          case measure => simp [intOf]
        · have hw1 : IntKind.i64.wrap (4611686018427387904 - x.ub) = 4611686018427387904 - x.ub := IntWalk.i64_in _ (by omega)
          have hw2 : IntKind.i64.wrap (min t (4611686018427387904 - x.ub) + x.ub) = min t (4611686018427387904 - x.ub) + x.ub := IntWalk.i64_in _ (by omega)
          have hmm : (if t ≤ 4611686018427387904 - x.ub then t else 4611686018427387904 - x.ub) = min t (4611686018427387904 - x.ub) := by split <;> omega
          try simp only [Int.natCast_zero, Int.natCast_one]
          go_wp2_with fail
          have q_x0 := fun d os => cell_regrown x0 d os
          have q_x1 := fun d os => cell_regrown x1 d os
          have q_x2 := fun d os => cell_regrown x2 d os
          try simp only [List.append]
          first | refine wp_region_text_below ?_ | refine wp_region_quiet_below (by kernel_rfl) (by kernel_rfl) ?_
          repeat (go_big_quiet_step ((fail)))
          refine wpQuiet_nil ?_
          intro _ hqw
          obtain ⟨pq, hqw⟩ := hqw
          subst hqw
          clear q_x0 q_x1 q_x2
          have hbq := hb.trans ((below_regrown wr pq.d pq.os).mono hb.size)
          clear x0 x1 x2 hlt hw1 hw2 hmm
          generalize grow (redrawn wr pq.d) pq.os = wq at *
          go_wp2_with fail
          go_roundw
          case rel => exact ⟨2, by go_num, by omega, by omega, by first | (rw [HNX.out]; simp [getU]; done) | (rw [HNX.out]; simp [getU]; omega) | (rw [HNX.out]; congr 1; simp [getU]; split <;> omega), hbq⟩
          case measure => simp [intOf]
        · have hw1 : IntKind.i64.wrap (4611686018427387904 - x.uc) = 4611686018427387904 - x.uc := IntWalk.i64_in _ (by omega)
          have hw2 : IntKind.i64.wrap (min t (4611686018427387904 - x.uc) + x.uc) = min t (4611686018427387904 - x.uc) + x.uc := IntWalk.i64_in _ (by omega)
          have hmm : (if t ≤ 4611686018427387904 - x.uc then t else 4611686018427387904 - x.uc) = min t (4611686018427387904 - x.uc) := by split <;> omega
          try simp only [Int.natCast_zero, Int.natCast_one]
          go_wp2_with fail
          have q_x0 := fun d os => cell_regrown x0 d os
          have q_x1 := fun d os => cell_regrown x1 d os
          have q_x2 := fun d os => cell_regrown x2 d os
          try simp only [List.append]
          first | refine wp_region_text_below ?_ | refine wp_region_quiet_below (by kernel_rfl) (by kernel_rfl) ?_
          repeat (go_big_quiet_step ((fail)))
          refine wpQuiet_nil ?_
          intro _ hqw
          obtain ⟨pq, hqw⟩ := hqw
          subst hqw
          clear q_x0 q_x1 q_x2
          have hbq := hb.trans ((below_regrown wr pq.d pq.os).mono hb.size)
          clear x0 x1 x2 hlt hw1 hw2 hmm
          generalize grow (redrawn wr pq.d) pq.os = wq at *
          go_wp2_with fail
          go_roundw
          case rel => exact ⟨3, by go_num, by omega, by omega, by first | (rw [HNX.out]; simp [getU]; done) | (rw [HNX.out]; simp [getU]; omega) | (rw [HNX.out]; congr 1; simp [getU]; split <;> omega), hbq⟩
          case measure => simp [intOf]
      · obtain rfl : k = 3 := by omega
        go_wp2_with fail
        go_ret
        exact ⟨by rw [HV.out]; rfl, HB3.out.trans (hb.mono HB3.out.size)⟩
theorem rvolume_is {id fr tn st en ra : Int} (v : Int) (h : volumeF id fr tn st en ra = v) (w : World) :
    Calls Try.prog 71 #[.agg #[.int .i64 id, .int .i64 fr, .int .i64 tn, .int .i64 st, .int .i64 en, .int .i64 ra]] w fun e w' => e = .returned (.int .i64 v) ∧ Below w.heap.size w w' := h ▸ rvolume_any id fr tn st en ra w
set_option maxHeartbeats 2000000 in
set_option maxRecDepth 100000 in
theorem rroom_any (A : Option Addr) (n k : Nat) (d : List Bk) (c : Ct) (cl : Int) (w : World) (hd : d.length = n) (hn : n ≤ 1000000) (h : Sl w w.heap.size 4 A n k (flatBk d)) (hs : SortB d) (x : Bk) (hx : rowB d c.id = x) (hok : okU x) (v : Int) (hv : roomF c x cl = v) :
    Calls Try.prog 41 #[.slice A n k, .agg #[.int .i64 c.id, .int .i64 c.fr, .int .i64 c.tn, .int .i64 c.st, .int .i64 c.en, .int .i64 c.rt], .int .i64 cl] w fun e w' => e = .returned (.int .i64 v) ∧ Below w.heap.size w w' := by
  have hBa : Below w.heap.size w (w.alloc (.cells #[.int .i64 c.id, .int .i64 c.fr, .int .i64 c.tn, .int .i64 c.st, .int .i64 c.en, .int .i64 c.rt] 28)) := by (repeat (first | exact Below.refl _ _ | refine Below.alloc ?_ (by first | omega | (simp; done) | (simp; omega)) _ | refine Below.setCell ?_ (by first | omega | (simp; done) | (simp; omega)) _ | refine Below.drew ?_))
  have hX := Blok.new w 28 #[.int .i64 c.id, .int .i64 c.fr, .int .i64 c.tn, .int .i64 c.st, .int .i64 c.en, .int .i64 c.rt]
  have hl := h.up hBa
  cases hc : inB cl 0 2 with
  | false =>
    have hv0 : v = 0 := by rw [← hv]; unfold roomF; rw [if_neg (by rw [hc]; simp)]
    subst hv0
    have HC := Lib.hid hc
    clear hc
    go_enter Try.func41, Try.ntmps41
    go_wp2_with fail
    refine (rclass_any cl _ false HC.out).mono ?_
    rintro e w1 ⟨rfl, rfl⟩
    go_wp2
    go_ret
    exact ⟨rfl, hBa⟩
  | true =>
    have HC := Lib.hid hc
    obtain ⟨vo, hvo⟩ : ∃ r, volumeF c.id c.fr c.tn c.st c.en c.rt = r := ⟨_, rfl⟩
    obtain ⟨bk, hbk⟩ : ∃ r, backF x cl = r := ⟨_, rfl⟩
    have hvb := volC_ok c
    unfold volC at hvb
    rw [hvo] at hvb
    have hbb := backF_ok hok cl
    rw [hbk] at hbb
    obtain ⟨v0, v1⟩ := hvb
    obtain ⟨b0, b1⟩ := hbb
    have hvm : v = max 0 (vo - bk) := by
      rw [← hv]; unfold roomF volC; rw [if_pos hc, hvo, hbk]
    have HVM := Lib.hid hvm
    have HVO := Lib.hid hvo
    have hwr : IntKind.i64.wrap (vo - bk) = vo - bk := IntWalk.i64_in _ (by omega)
    go_enter Try.func41, Try.ntmps41
    go_wp2_with fail
    generalize w.alloc (.cells #[.int .i64 c.id, .int .i64 c.fr, .int .i64 c.tn, .int .i64 c.st, .int .i64 c.en, .int .i64 c.rt] 28) = w1 at *
    refine (rclass_any cl w1 true HC.out).mono ?_
    rintro e w2 ⟨rfl, rfl⟩
    have c0 : w1.cell? ⟨w.heap.size, 0, none⟩ = some (.int .i64 c.id) := hX.cell 0
    have c1 : w1.cell? ⟨w.heap.size, 1, none⟩ = some (.int .i64 c.fr) := hX.cell 1
    have c2 : w1.cell? ⟨w.heap.size, 2, none⟩ = some (.int .i64 c.tn) := hX.cell 2
    have c3 : w1.cell? ⟨w.heap.size, 3, none⟩ = some (.int .i64 c.st) := hX.cell 3
    have c4 : w1.cell? ⟨w.heap.size, 4, none⟩ = some (.int .i64 c.en) := hX.cell 4
    have c5 : w1.cell? ⟨w.heap.size, 5, none⟩ = some (.int .i64 c.rt) := hX.cell 5
    have lt_c := hX.lt
    have HQL : Hid (∀ dd os, Sl (grow (redrawn w1 dd) os) (grow (redrawn w1 dd) os).heap.size 4 A n k (flatBk d)) := fun dd os => hl.up (below_regrown w1 dd os)
    have HSS := Lib.hid hs
    have HXX := Lib.hid hx
    have HOK := Lib.hid hok
    have HBK := Lib.hid hbk
    have HDD := Lib.hid hd
    clear hX hl h hs hx hok hbk hd hv hvm hvo hc
    go_wp2_with fail
    have q_c0 := fun d os => cell_regrown c0 d os
    have q_c1 := fun d os => cell_regrown c1 d os
    have q_c2 := fun d os => cell_regrown c2 d os
    have q_c3 := fun d os => cell_regrown c3 d os
    have q_c4 := fun d os => cell_regrown c4 d os
    have q_c5 := fun d os => cell_regrown c5 d os
    try simp only [List.append]
    first | refine wp_region_text_below ?_ | refine wp_region_quiet_below (by kernel_rfl) (by kernel_rfl) ?_
    repeat (go_big_quiet_step (((first | (go_at_call 71; with_reducible exact Calls.regrown_of (rvolume_is vo HVO.out _)) | (go_at_call 40; with_reducible exact Calls.regrown_of (rbacklog_any A n k d c.id cl _ HDD.out hn (HQL.out _ _) HSS.out x HXX.out HOK.out bk HBK.out))))))
    refine wpQuiet_nil ?_
    intro _ hqw
    obtain ⟨pq, hqw⟩ := hqw
    subst hqw
    clear q_c0 q_c1 q_c2 q_c3 q_c4 q_c5
    have hbq := hBa.trans ((below_regrown w1 pq.d pq.os).mono hBa.size)
    clear c0 c1 c2 c3 c4 c5 lt_c HQL
    generalize grow (redrawn w1 pq.d) pq.os = wq at *
    go_wp2_with fail
    all_goals
      go_ret
      refine ⟨?_, hbq⟩
      rw [HVM.out]
      first
        | (show Ending.returned (Value.int .i64 (vo - bk)) = _; rw [show max 0 (vo - bk) = vo - bk by omega])
        | (show Ending.returned (Value.int .i64 0) = _; rw [show max 0 (vo - bk) = 0 by omega])
end Go.Proofs.Ytfdphpmcgidmiaa.Kb

/- Layer 9's small case comes out right. No condition. -/
namespace Go.Proofs.Ytfdphpmcgidmiaa.Kb
open Go.ChangeShapes Go.WideShapes Go.ChangeAt Go.RowKit Go.Sort
set_option linter.unusedSimpArgs false
set_option linter.unusedVariables false
theorem own_below {w w' : World} {base : Nat} {e : TypeId} {size n : Nat} {v : Value} {xs : List Value} (h : w.ownsRow base e size v n xs) (hb : Below w.heap.size w w') : w'.ownsRow base e size v n xs :=
  h.kept (grown_of_below (row := some w.heap.size) hb) (.inr (fun e => by have := (h.lt _ e).2; omega))
end Go.Proofs.Ytfdphpmcgidmiaa.Kb

/- The document's own ledger: a ledger where that of an ID is so. -/
namespace Go.Proofs.Ytfdphpmcgidmiaa.Kb
open Go.ChangeShapes Go.WideShapes Go.ChangeAt Go.RowKit Go.Sort
set_option linter.unusedSimpArgs false
set_option linter.unusedVariables false
abbrev WSt := List Bk × Bool
def stepX (y : Bk) (st : WSt) (r : Bk) : WSt :=
  let s1 : WSt := if st.2 = false ∧ y.id ≤ r.id then (st.1 ++ [y], true) else st
  if r.id = y.id then s1 else (s1.1 ++ [r], s1.2)
theorem foldX_true (y : Bk) : ∀ (d : List Bk) (o : List Bk), d.foldl (stepX y) (o, true) = (o ++ d.filter (fun r => decide (r.id ≠ y.id)), true)
  | [], o => by simp
  | r :: d, o => by
    rw [List.foldl_cons]
    by_cases h : r.id = y.id
    · have e : stepX y (o, true) r = (o, true) := by simp [stepX, h]
      rw [e, foldX_true y d o]; simp [h]
    · have e : stepX y (o, true) r = (o ++ [r], true) := by simp [stepX, h]
      rw [e, foldX_true y d (o ++ [r])]; simp [h]
def finX (y : Bk) (st : WSt) : List Bk := if st.2 = true then st.1 else st.1 ++ [y]
theorem sort_tail {r : Bk} {d : List Bk} (h : SortB (r :: d)) : SortB d ∧ ∀ x ∈ d, r.id < x.id := ⟨(List.pairwise_cons.1 h).2, (List.pairwise_cons.1 h).1⟩
theorem filter_up {id : Int} {d : List Bk} (h : ∀ x ∈ d, id < x.id) : d.filter (fun x => decide (x.id < id)) = [] ∧ d.filter (fun x => decide (id < x.id)) = d ∧ d.filter (fun r => decide (r.id ≠ id)) = d := by
  refine ⟨List.filter_eq_nil_iff.2 (fun x hx => by have := h x hx; simp; omega), List.filter_eq_self.2 (fun x hx => by have := h x hx; simp; omega), List.filter_eq_self.2 (fun x hx => by have := h x hx; simp; omega)⟩
theorem foldX_false (y : Bk) : ∀ (d : List Bk) (o : List Bk), SortB d → finX y (d.foldl (stepX y) (o, false)) = o ++ d.filter (fun x => decide (x.id < y.id)) ++ [y] ++ d.filter (fun x => decide (y.id < x.id))
  | [], o, _ => by simp [finX]
  | r :: d, o, h => by
    obtain ⟨h1, h2⟩ := sort_tail h
    rw [List.foldl_cons]
    by_cases hl : r.id < y.id
    · have e : stepX y (o, false) r = (o ++ [r], false) := by
        have : ¬ y.id ≤ r.id := by omega
        have h3 : ¬ r.id = y.id := by omega
        simp [stepX, this, h3]
      have hn : ¬ y.id < r.id := by omega
      rw [e, foldX_false y d (o ++ [r]) h1]
      simp [hl, hn]
    · obtain ⟨f1, f2, f3⟩ := filter_up (id := y.id) (d := d) (fun x hx => by have := h2 x hx; omega)
      have hle : y.id ≤ r.id := by omega
      by_cases he : r.id = y.id
      · have e : stepX y (o, false) r = (o ++ [y], true) := by simp [stepX, he]
        have hn : ¬ y.id < r.id := by omega
        rw [e, foldX_true, f3]
        simp only [finX, if_true, List.filter_cons, hl, hn, decide_false, Bool.false_eq_true, if_false, f1, f2]
        simp
      · have e : stepX y (o, false) r = (o ++ [y] ++ [r], true) := by simp [stepX, he, hle]
        have hn : y.id < r.id := by omega
        rw [e, foldX_true, f3]
        simp only [finX, if_true, List.filter_cons, hl, hn, decide_false, decide_true, Bool.false_eq_true, if_false, f1, f2]
        simp
theorem filter_split {id : Int} : ∀ {d : List Bk}, SortB d → d.filter (fun r => decide (r.id ≠ id)) = d.filter (fun x => decide (x.id < id)) ++ d.filter (fun x => decide (id < x.id))
  | [], _ => rfl
  | r :: d, h => by
    obtain ⟨h1, h2⟩ := sort_tail h
    by_cases hl : r.id < id
    · have hn : ¬ id < r.id := by omega
      have hne : r.id ≠ id := by omega
      simp only [List.filter_cons, hl, hn, hne, ne_eq, not_false_eq_true, decide_true, decide_false, if_true, Bool.false_eq_true, if_false]
      have := filter_split (id := id) h1
      simp only [ne_eq] at this
      rw [this]
      simp
    · obtain ⟨f1, f2, f3⟩ := filter_up (id := id) (d := d) (fun x hx => by have := h2 x hx; omega)
      simp only [ne_eq] at f3
      by_cases he : r.id = id
      · have hn : ¬ id < r.id := by omega
        simp [List.filter_cons, he, f1, f2, f3]
        exact fun a ha => by have := h2 a ha; omega
      · have hn : id < r.id := by omega
        simp [List.filter_cons, hl, he, hn, f1, f2, f3]
        exact fun a ha => by have := h2 a ha; omega
theorem with_more {d : List Bk} {y : Bk} (hs : SortB d) : finX y (d.foldl (stepX y) ([], zeroU y)) = moreB d y.id y := by
  obtain ⟨m1, m2⟩ := more_parts y.id hs
  unfold moreB
  rw [m1, m2]
  cases hz : zeroU y with
  | true => rw [foldX_true, filter_split hs]; simp [finX]
  | false => rw [foldX_false y d [] hs]; simp
theorem foldX_next {y : Bk} {st : WSt} {d : List Bk} {i : Nat} (h : i < d.length) : (d.take (i + 1)).foldl (stepX y) st = stepX y ((d.take i).foldl (stepX y) st) (gBk d i) := by
  rw [take_nextBk h, List.foldl_append]; rfl
theorem foldX_len (y : Bk) : ∀ (d : List Bk) (st : WSt), (d.foldl (stepX y) st).1.length ≤ st.1.length + 2 * d.length
  | [], st => by simp
  | r :: d, st => by
    rw [List.foldl_cons]
    have h1 := foldX_len y d (stepX y st r)
    have h2 : (stepX y st r).1.length ≤ st.1.length + 2 := by
      unfold stepX
      by_cases ha : st.2 = false ∧ y.id ≤ r.id
      · simp only [ha, and_self, if_true]; split <;> simp
      · simp only [ha, if_false]; split <;> simp
    simp only [List.length_cons]
    omega

theorem ownB {w : World} {base base' : Nat} {e : TypeId} {size n : Nat} {v : Value} {xs : List Value} (h : w.ownsRow base e size v n xs) (hb : base' ≤ base) : w.ownsRow base' e size v n xs := by
  refine ⟨h.1, ?_⟩
  rcases h.2 with hx | ⟨g, cap, cur, rfl, hb', rest⟩
  · exact .inl hx
  · exact .inr ⟨g, cap, cur, rfl, by omega, rest⟩
theorem flatBk_one_ (y : Bk) : flatBk [y] = [.int .i64 y.id, .int .i64 y.ua, .int .i64 y.ub, .int .i64 y.uc] := rfl
end Go.Proofs.Ytfdphpmcgidmiaa.Kb

/- The document's own ledger: Drop. -/
namespace Go.Proofs.Ytfdphpmcgidmiaa.Kb
open Go.ChangeShapes Go.WideShapes Go.ChangeAt Go.RowKit Go.Sort
set_option linter.unusedSimpArgs false
set_option linter.unusedVariables false
theorem dropL_next {d : List Bk} {ids : List Int} {i : Nat} (h : i < d.length) : dropL (d.take (i + 1)) ids = dropL (d.take i) ids ++ (if inL ids (gBk d i).id = true then [] else [gBk d i]) := by
  unfold dropL
  rw [take_nextBk h, List.filter_append]
  congr 1
  by_cases hq : inL ids (gBk d i).id = true
  · simp [hq]
  · simp [hq]
end Go.Proofs.Ytfdphpmcgidmiaa.Kb

/- The document's own ledger: Release and Book. -/
namespace Go.Proofs.Ytfdphpmcgidmiaa.Kb
open Go.ChangeShapes Go.WideShapes Go.ChangeAt Go.RowKit Go.Sort
set_option linter.unusedSimpArgs false
set_option linter.unusedVariables false

theorem relL_no {d : List Bk} {id cl sz : Int} (h : relB d id cl sz = false) : relL d id cl sz = d := by unfold relL; rw [if_neg (by rw [h]; simp)]
theorem relL_yes {d : List Bk} {id cl sz : Int} (h : relB d id cl sz = true) : relL d id cl sz = moreB d id (bump (rowB d id) cl (-sz)) := by unfold relL; rw [if_pos h]
end Go.Proofs.Ytfdphpmcgidmiaa.Kb

/- The document's own ledger: Book. -/
namespace Go.Proofs.Ytfdphpmcgidmiaa.Kb
open Go.ChangeShapes Go.WideShapes Go.ChangeAt Go.RowKit Go.Sort
set_option linter.unusedSimpArgs false
set_option linter.unusedVariables false
theorem bookL_no {d : List Bk} {c : Ct} {cl sz : Int} (h : bookB d c cl sz = false) : bookL d c cl sz = d := by unfold bookL; rw [if_neg (by rw [h]; simp)]
theorem bookL_yes {d : List Bk} {c : Ct} {cl sz : Int} (h : bookB d c cl sz = true) : bookL d c cl sz = moreB d c.id (bump (rowB d c.id) cl sz) := by unfold bookL; rw [if_pos h]
end Go.Proofs.Ytfdphpmcgidmiaa.Kb

/- The document's own ledger: Right. -/
namespace Go.Proofs.Ytfdphpmcgidmiaa.Kb
open Go.ChangeShapes Go.WideShapes Go.ChangeAt Go.RowKit Go.Sort
set_option linter.unusedSimpArgs false
set_option linter.unusedVariables false
def okTo (r : Bk) : Nat → Bool
  | 0 => true
  | k + 1 => okTo r k && inM (getU r (k : Int))
def someTo (r : Bk) : Nat → Bool
  | 0 => false
  | k + 1 => someTo r k || decide (0 < getU r (k : Int))
theorem okTo3 (r : Bk) : okTo r 3 = (inM r.ua && (inM r.ub && inM r.uc)) := by simp [okTo, getU, Bool.and_assoc]
theorem someTo3 {r : Bk} (h : okTo r 3 = true) : someTo r 3 = !zeroU r := by
  rw [okTo3] at h
  simp only [Bool.and_eq_true] at h
  obtain ⟨h1, h2, h3⟩ := h
  unfold inM inB at h1 h2 h3
  simp only [Bool.and_eq_true, decide_eq_true_eq] at h1 h2 h3
  unfold zeroU
  rw [Bool.eq_iff_iff]
  simp [someTo, getU]
  omega
theorem okTo_bad {r : Bk} {k : Nat} (hk : k < 3) (h : inM (getU r (k : Int)) = false) : okTo r 3 = false := by
  rw [okTo3]
  rcases (by omega : k = 0 ∨ k = 1 ∨ k = 2) with rfl | rfl | rfl <;> simp [getU] at h <;> simp [h]
set_option maxHeartbeats 8000000 in
set_option maxRecDepth 100000 in
theorem rright_any (A : Option Addr) (n c : Nat) (d : List Bk) (w : World) (hd : d.length = n) (hn : n ≤ 100000) (h : Sl w w.heap.size 4 A n c (flatBk d)) :
    Calls Try.prog 11 #[.slice A n c] w fun e w' => e = .returned (.bool (rightB d)) ∧ Below w.heap.size w w' := by
  have HD := Lib.hid hd
  have HL := Lib.hid h
  clear hd h
  go_enter Try.func11, Try.ntmps11
  go_wp2
  go_loopw [3] (fun iv wr => ∃ (i : Nat), iv = .int .i64 i ∧ i ≤ n ∧ Hid (∀ j, j < i → stepR d j = true) ∧ Below w.heap.size w wr) (fun iv _ => n - (intOf iv).toNat)
  case atStart => exact ⟨0, rfl, by omega, fun j hj => by omega, Below.refl _ _⟩
  case round =>
    obtain ⟨i, rfl, hi, HS, hB⟩ := hrel
    have hs := hB.size
    by_cases hin : i < n
    · obtain ⟨ad, rfl, hab, c0, c1, c2, c3⟩ := (HL.out.below hB).lst.atBk HD.out hin
      obtain ⟨r, hr⟩ : ∃ r, gBk d i = r := ⟨_, rfl⟩
      rw [hr] at c0 c1 c2 c3
      have hstep : stepR d i = (inB r.id 1 1048576 && ((i == 0 || decide ((gBk d (i - 1)).id < r.id)) && (!zeroU r && (inM r.ua && (inM r.ub && inM r.uc))))) := by unfold stepR; rw [hr]
      have HST := Lib.hid hstep
      have HBAD := Lib.hid (fun hq : stepR d i = false => rightB_false (by rw [HD.out]; exact hin) hq)
      have hbA : Below wr.heap.size wr (wr.alloc (.cells #[.int .i64 r.id, .int .i64 r.ua, .int .i64 r.ub, .int .i64 r.uc] 55)) := by (repeat (first | exact Below.refl _ _ | refine Below.alloc ?_ (by first | omega | (simp; done) | (simp; omega)) _ | refine Below.setCell ?_ (by first | omega | (simp; done) | (simp; omega)) _ | refine Below.drew ?_))
      have hX := Blok.new wr 55 #[.int .i64 r.id, .int .i64 r.ua, .int .i64 r.ub, .int .i64 r.uc]
      clear hstep hr
      go_upto_region 5 with fail
      have hB3 := hB.trans (hbA.mono hs)
      generalize wr.alloc (.cells #[.int .i64 r.id, .int .i64 r.ua, .int .i64 r.ub, .int .i64 r.uc] 55) = w3 at *
      generalize wr.heap.size = bx at *
      have hs3 := hB3.size
      have q0 : w3.cell? ⟨bx, 0, none⟩ = some (.int .i64 r.id) := hX.cell 0
      have lt_x := hX.lt
      clear c0 c1 c2 c3 hB hs hbA
      obtain ⟨p, hp⟩ : ∃ p, gBk d (i - 1) = p := ⟨_, rfl⟩
      have HP := Lib.hid hp
      have hprev : Hid (0 < i → w3.cell? (ad.add ((i - 1) * 4)) = some (.int .i64 p.id)) := fun h0 => by
        obtain ⟨ae, he, _, e0, _⟩ := (HL.out.below hB3).lst.atBk HD.out (k := i - 1) (by omega)
        injection he with he
        subst he
        rw [HP.out] at e0
        exact e0
      clear hp
      go_cut [39] (fun s wx => ∃ b : Bool, s = .bool b ∧ Hid (b = true → stepR d i = false) ∧ Hid (b = false → inB r.id 1 1048576 = true ∧ (i == 0 || decide (p.id < r.id)) = true) ∧ Below w3.heap.size w3 wx)
      case first =>
        by_cases g1 : r.id < 1
        · skip
          have d1 : decide (r.id < 1) = true := decide_eq_true g1
          have q_q0 := fun d os => cell_regrown q0 d os
          try simp only [List.append]
          first | refine wp_region_text_below ?_ | refine wp_region_quiet_below (by kernel_rfl) (by kernel_rfl) ?_
          repeat (go_big_quiet_step ((fail)))
          refine wpQuiet_nil ?_
          intro _ hqw
          obtain ⟨pq, hqw⟩ := hqw
          subst hqw
          clear q_q0
          have hbq := below_regrown w3 pq.d pq.os
          clear q0
          generalize grow (redrawn w3 pq.d) pq.os = wq at *
          go_wp2_with fail
          go_meet
          exact ⟨true, rfl, (fun _ => by rw [HST.out]; have e : inB r.id 1 1048576 = false := by {unfold inB; simp; omega}; rw [e]; rfl), (fun h => by cases h), hbq⟩
        · by_cases g2 : 1048576 < r.id
          · skip
            have d1 : decide (r.id < 1) = false := decide_eq_false g1
            have d2 : decide (r.id > 1048576) = true := decide_eq_true g2
            have q_q0 := fun d os => cell_regrown q0 d os
            try simp only [List.append]
            first | refine wp_region_text_below ?_ | refine wp_region_quiet_below (by kernel_rfl) (by kernel_rfl) ?_
            repeat (go_big_quiet_step ((fail)))
            refine wpQuiet_nil ?_
            intro _ hqw
            obtain ⟨pq, hqw⟩ := hqw
            subst hqw
            clear q_q0
            have hbq := below_regrown w3 pq.d pq.os
            clear q0
            generalize grow (redrawn w3 pq.d) pq.os = wq at *
            go_wp2_with fail
            go_meet
            exact ⟨true, rfl, (fun _ => by rw [HST.out]; have e : inB r.id 1 1048576 = false := by {unfold inB; simp; omega}; rw [e]; rfl), (fun h => by cases h), hbq⟩
          · by_cases g3 : i = 0
            · subst g3
              skip
              have d1 : decide (r.id < 1) = false := decide_eq_false g1
              have d2 : decide (r.id > 1048576) = false := decide_eq_false g2
              have q_q0 := fun d os => cell_regrown q0 d os
              try simp only [List.append]
              first | refine wp_region_text_below ?_ | refine wp_region_quiet_below (by kernel_rfl) (by kernel_rfl) ?_
              repeat (go_big_quiet_step ((fail)))
              refine wpQuiet_nil ?_
              intro _ hqw
              obtain ⟨pq, hqw⟩ := hqw
              subst hqw
              clear q_q0
              have hbq := below_regrown w3 pq.d pq.os
              clear q0
              generalize grow (redrawn w3 pq.d) pq.os = wq at *
              go_wp2_with fail
              go_meet
              exact ⟨false, rfl, (fun h => by cases h), (fun _ => ⟨by {unfold inB; simp; omega}, rfl⟩), hbq⟩
            · have p0 := hprev.out (by omega)
              have hi0 : 0 < i := by omega
              have hwr : IntKind.i64.wrap ((i : Int) - 1) = (i : Int) - 1 := IntWalk.i64_in _ (by omega)
              have hcast : ((i : Int) - 1) = ((i - 1 : Nat) : Int) := by omega
              have hlt1 : i - 1 < n := by omega
              by_cases g4 : r.id ≤ p.id
              · skip
                have d1 : decide (r.id < 1) = false := decide_eq_false g1
                have d2 : decide (r.id > 1048576) = false := decide_eq_false g2
                have d3 : decide ((i : Int) > 0) = true := by simp; omega
                have d4 : decide (r.id ≤ p.id) = true := decide_eq_true g4
                have q_q0 := fun d os => cell_regrown q0 d os
                have q_p0 := fun d os => cell_regrown p0 d os
                try simp only [List.append]
                first | refine wp_region_text_below ?_ | refine wp_region_quiet_below (by kernel_rfl) (by kernel_rfl) ?_
                repeat (go_big_quiet_step ((fail)))
                refine wpQuiet_nil ?_
                intro _ hqw
                obtain ⟨pq, hqw⟩ := hqw
                subst hqw
                clear q_q0 q_p0
                have hbq := below_regrown w3 pq.d pq.os
                clear q0 p0
                generalize grow (redrawn w3 pq.d) pq.os = wq at *
                go_wp2_with fail
                go_meet
                exact ⟨true, rfl, (fun _ => by rw [HST.out]; have e : (i == 0 || decide ((gBk d (i - 1)).id < r.id)) = false := by {rw [HP.out]; simp; omega}; rw [e]; simp), (fun h => by cases h), hbq⟩
              · skip
                have d1 : decide (r.id < 1) = false := decide_eq_false g1
                have d2 : decide (r.id > 1048576) = false := decide_eq_false g2
                have d3 : decide ((i : Int) > 0) = true := by simp; omega
                have d4 : decide (r.id ≤ p.id) = false := decide_eq_false g4
                have q_q0 := fun d os => cell_regrown q0 d os
                have q_p0 := fun d os => cell_regrown p0 d os
                try simp only [List.append]
                first | refine wp_region_text_below ?_ | refine wp_region_quiet_below (by kernel_rfl) (by kernel_rfl) ?_
                repeat (go_big_quiet_step ((fail)))
                refine wpQuiet_nil ?_
                intro _ hqw
                obtain ⟨pq, hqw⟩ := hqw
                subst hqw
                clear q_q0 q_p0
                have hbq := below_regrown w3 pq.d pq.os
                clear q0 p0
                generalize grow (redrawn w3 pq.d) pq.os = wq at *
                go_wp2_with fail
                go_meet
                exact ⟨false, rfl, (fun h => by cases h), (fun _ => ⟨by {unfold inB; simp; omega}, by {simp; omega}⟩), hbq⟩
      case rest =>
        revert wc
        intro w4 hcut
        obtain ⟨b, rfl, HB1, HB2, hb⟩ := hcut
        have hX4 := hX.below hb hX.lt
        have hB4 := hB3.trans (hb.mono hs3)
        have hs4 := hB4.size
        clear q0 lt_x hX hB3 hs3 hb hprev
        cases b
        · obtain ⟨hid1, hid2⟩ := HB2.out rfl
          have HI1 := Lib.hid hid1
          have HI2 := Lib.hid hid2
          clear hid1 hid2 HB1 HB2
          have q1 : w4.cell? ⟨bx, 1, none⟩ = some (.int .i64 r.ua) := hX4.cell 1
          have q2 : w4.cell? ⟨bx, 2, none⟩ = some (.int .i64 r.ub) := hX4.cell 2
          have q3 : w4.cell? ⟨bx, 3, none⟩ = some (.int .i64 r.uc) := hX4.cell 3
          have lt_x := hX4.lt
          have HX4 := Lib.hid hX4
          clear hX4
          go_wp2
          go_loopw [5, 6] (fun gv kv wx => ∃ (k : Nat) (g : Bool), gv = .bool g ∧ kv = .int .i64 k ∧ k ≤ 3 ∧ Hid (okTo r k = true) ∧ Hid (someTo r k = g) ∧ w4 = wx) (fun _ kv _ => 3 - (intOf kv).toNat)
          case atStart => exact ⟨0, false, rfl, rfl, by omega, rfl, rfl, rfl⟩
          case round =>
            obtain ⟨k, g, rfl, rfl, hk, HK, HG, rfl⟩ := hrel
            by_cases hk3 : k < 3
            · rcases (by omega : k = 0 ∨ k = 1 ∨ k = 2) with rfl | rfl | rfl
              · try simp only [Int.natCast_zero, Int.natCast_one]
                by_cases h1 : r.ua < 0
                · have d1 : decide (r.ua < 0) = true := decide_eq_true h1
                  have hbad : stepR d i = false := by
                    have e := okTo_bad (r := r) (k := 0) (by omega) (by unfold inM inB; simp [getU]; omega)
                    rw [okTo3] at e
                    rw [HST.out, e]; simp
                  have HF := Lib.hid (HBAD.out hbad)
                  clear hbad
                  go_wp2_with fail
                  go_ret
                  exact ⟨by rw [HF.out]; rfl, hB4⟩
                · have d1 : decide (r.ua < 0) = false := decide_eq_false h1
                  by_cases h2 : 4611686018427387904 < r.ua
                  · have d2 : decide (r.ua > 4611686018427387904) = true := decide_eq_true h2
                    have hbad : stepR d i = false := by
                      have e := okTo_bad (r := r) (k := 0) (by omega) (by unfold inM inB; simp [getU]; omega)
                      rw [okTo3] at e
                      rw [HST.out, e]; simp
                    have HF := Lib.hid (HBAD.out hbad)
                    clear hbad
                    go_wp2_with fail
                    go_ret
                    exact ⟨by rw [HF.out]; rfl, hB4⟩
                  · have d2 : decide (r.ua > 4611686018427387904) = false := decide_eq_false h2
                    cases g
                    · by_cases h3 : 0 < r.ua
                      · have d3 : decide (r.ua > 0) = true := decide_eq_true h3
                        have HK2 : Hid (okTo r 1 = true) := by
                          show (okTo r 0 && inM (getU r ((0 : Nat) : Int))) = true
                          rw [HK.out]; unfold inM inB; simp [getU]; omega
                        have HG2 : Hid (someTo r 1 = true) := by
                          show (someTo r 0 || decide (0 < getU r ((0 : Nat) : Int))) = true
                          rw [HG.out]; simp [getU]; try exact h3
                        clear HK HG
                        try simp only [Int.natCast_zero, Int.natCast_one]
                        go_wp2_with fail
                        go_roundw
                        case rel => exact ⟨1, true, rfl, by go_num, by omega, HK2, HG2, by first | rfl | trivial⟩
                        case measure => simp [intOf]
                      · have d3 : decide (r.ua > 0) = false := decide_eq_false h3
                        have HK2 : Hid (okTo r 1 = true) := by
                          show (okTo r 0 && inM (getU r ((0 : Nat) : Int))) = true
                          rw [HK.out]; unfold inM inB; simp [getU]; omega
                        have HG2 : Hid (someTo r 1 = false) := by
                          show (someTo r 0 || decide (0 < getU r ((0 : Nat) : Int))) = false
                          rw [HG.out]; simp [getU]; try omega
                        clear HK HG
                        try simp only [Int.natCast_zero, Int.natCast_one]
                        go_wp2_with fail
                        go_roundw
                        case rel => exact ⟨1, false, rfl, by go_num, by omega, HK2, HG2, by first | rfl | trivial⟩
                        case measure => simp [intOf]
                    · skip
                      have HK2 : Hid (okTo r 1 = true) := by
                        show (okTo r 0 && inM (getU r ((0 : Nat) : Int))) = true
                        rw [HK.out]; unfold inM inB; simp [getU]; omega
                      have HG2 : Hid (someTo r 1 = true) := by
                        show (someTo r 0 || decide (0 < getU r ((0 : Nat) : Int))) = true
                        rw [HG.out]; simp [getU]
                      clear HK HG
                      try simp only [Int.natCast_zero, Int.natCast_one]
                      go_wp2_with fail
                      go_roundw
                      case rel => exact ⟨1, true, rfl, by go_num, by omega, HK2, HG2, by first | rfl | trivial⟩
                      case measure => simp [intOf]
              · try simp only [Int.natCast_zero, Int.natCast_one]
                by_cases h1 : r.ub < 0
                · have d1 : decide (r.ub < 0) = true := decide_eq_true h1
                  have hbad : stepR d i = false := by
                    have e := okTo_bad (r := r) (k := 1) (by omega) (by unfold inM inB; simp [getU]; omega)
                    rw [okTo3] at e
                    rw [HST.out, e]; simp
                  have HF := Lib.hid (HBAD.out hbad)
                  clear hbad
                  go_wp2_with fail
                  go_ret
                  exact ⟨by rw [HF.out]; rfl, hB4⟩
                · have d1 : decide (r.ub < 0) = false := decide_eq_false h1
                  by_cases h2 : 4611686018427387904 < r.ub
                  · have d2 : decide (r.ub > 4611686018427387904) = true := decide_eq_true h2
                    have hbad : stepR d i = false := by
                      have e := okTo_bad (r := r) (k := 1) (by omega) (by unfold inM inB; simp [getU]; omega)
                      rw [okTo3] at e
                      rw [HST.out, e]; simp
                    have HF := Lib.hid (HBAD.out hbad)
                    clear hbad
                    go_wp2_with fail
                    go_ret
                    exact ⟨by rw [HF.out]; rfl, hB4⟩
                  · have d2 : decide (r.ub > 4611686018427387904) = false := decide_eq_false h2
                    cases g
                    · by_cases h3 : 0 < r.ub
                      · have d3 : decide (r.ub > 0) = true := decide_eq_true h3
                        have HK2 : Hid (okTo r 2 = true) := by
                          show (okTo r 1 && inM (getU r ((1 : Nat) : Int))) = true
                          rw [HK.out]; unfold inM inB; simp [getU]; omega
                        have HG2 : Hid (someTo r 2 = true) := by
                          show (someTo r 1 || decide (0 < getU r ((1 : Nat) : Int))) = true
                          rw [HG.out]; simp [getU]; try exact h3
                        clear HK HG
                        try simp only [Int.natCast_zero, Int.natCast_one]
                        go_wp2_with fail
                        go_roundw
                        case rel => exact ⟨2, true, rfl, by go_num, by omega, HK2, HG2, by first | rfl | trivial⟩
                        case measure => simp [intOf]
                      · have d3 : decide (r.ub > 0) = false := decide_eq_false h3
                        have HK2 : Hid (okTo r 2 = true) := by
                          show (okTo r 1 && inM (getU r ((1 : Nat) : Int))) = true
                          rw [HK.out]; unfold inM inB; simp [getU]; omega
                        have HG2 : Hid (someTo r 2 = false) := by
                          show (someTo r 1 || decide (0 < getU r ((1 : Nat) : Int))) = false
                          rw [HG.out]; simp [getU]; try omega
                        clear HK HG
                        try simp only [Int.natCast_zero, Int.natCast_one]
                        go_wp2_with fail
                        go_roundw
                        case rel => exact ⟨2, false, rfl, by go_num, by omega, HK2, HG2, by first | rfl | trivial⟩
                        case measure => simp [intOf]
                    · skip
                      have HK2 : Hid (okTo r 2 = true) := by
                        show (okTo r 1 && inM (getU r ((1 : Nat) : Int))) = true
                        rw [HK.out]; unfold inM inB; simp [getU]; omega
                      have HG2 : Hid (someTo r 2 = true) := by
                        show (someTo r 1 || decide (0 < getU r ((1 : Nat) : Int))) = true
                        rw [HG.out]; simp [getU]
                      clear HK HG
                      try simp only [Int.natCast_zero, Int.natCast_one]
                      go_wp2_with fail
                      go_roundw
                      case rel => exact ⟨2, true, rfl, by go_num, by omega, HK2, HG2, by first | rfl | trivial⟩
                      case measure => simp [intOf]
              · try simp only [Int.natCast_zero, Int.natCast_one]
                by_cases h1 : r.uc < 0
                · have d1 : decide (r.uc < 0) = true := decide_eq_true h1
                  have hbad : stepR d i = false := by
                    have e := okTo_bad (r := r) (k := 2) (by omega) (by unfold inM inB; simp [getU]; omega)
                    rw [okTo3] at e
                    rw [HST.out, e]; simp
                  have HF := Lib.hid (HBAD.out hbad)
                  clear hbad
                  go_wp2_with fail
                  go_ret
                  exact ⟨by rw [HF.out]; rfl, hB4⟩
                · have d1 : decide (r.uc < 0) = false := decide_eq_false h1
                  by_cases h2 : 4611686018427387904 < r.uc
                  · have d2 : decide (r.uc > 4611686018427387904) = true := decide_eq_true h2
                    have hbad : stepR d i = false := by
                      have e := okTo_bad (r := r) (k := 2) (by omega) (by unfold inM inB; simp [getU]; omega)
                      rw [okTo3] at e
                      rw [HST.out, e]; simp
                    have HF := Lib.hid (HBAD.out hbad)
                    clear hbad
                    go_wp2_with fail
                    go_ret
                    exact ⟨by rw [HF.out]; rfl, hB4⟩
                  · have d2 : decide (r.uc > 4611686018427387904) = false := decide_eq_false h2
                    cases g
                    · by_cases h3 : 0 < r.uc
                      · have d3 : decide (r.uc > 0) = true := decide_eq_true h3
                        have HK2 : Hid (okTo r 3 = true) := by
                          show (okTo r 2 && inM (getU r ((2 : Nat) : Int))) = true
                          rw [HK.out]; unfold inM inB; simp [getU]; omega
                        have HG2 : Hid (someTo r 3 = true) := by
                          show (someTo r 2 || decide (0 < getU r ((2 : Nat) : Int))) = true
                          rw [HG.out]; simp [getU]; try exact h3
                        clear HK HG
                        try simp only [Int.natCast_zero, Int.natCast_one]
                        go_wp2_with fail
                        go_roundw
                        case rel => exact ⟨3, true, rfl, by go_num, by omega, HK2, HG2, by first | rfl | trivial⟩
                        case measure => simp [intOf]
                      · have d3 : decide (r.uc > 0) = false := decide_eq_false h3
                        have HK2 : Hid (okTo r 3 = true) := by
                          show (okTo r 2 && inM (getU r ((2 : Nat) : Int))) = true
                          rw [HK.out]; unfold inM inB; simp [getU]; omega
                        have HG2 : Hid (someTo r 3 = false) := by
                          show (someTo r 2 || decide (0 < getU r ((2 : Nat) : Int))) = false
                          rw [HG.out]; simp [getU]; try omega
                        clear HK HG
                        try simp only [Int.natCast_zero, Int.natCast_one]
                        go_wp2_with fail
                        go_roundw
                        case rel => exact ⟨3, false, rfl, by go_num, by omega, HK2, HG2, by first | rfl | trivial⟩
                        case measure => simp [intOf]
                    · skip
                      have HK2 : Hid (okTo r 3 = true) := by
                        show (okTo r 2 && inM (getU r ((2 : Nat) : Int))) = true
                        rw [HK.out]; unfold inM inB; simp [getU]; omega
                      have HG2 : Hid (someTo r 3 = true) := by
                        show (someTo r 2 || decide (0 < getU r ((2 : Nat) : Int))) = true
                        rw [HG.out]; simp [getU]
                      clear HK HG
                      try simp only [Int.natCast_zero, Int.natCast_one]
                      go_wp2_with fail
                      go_roundw
                      case rel => exact ⟨3, true, rfl, by go_num, by omega, HK2, HG2, by first | rfl | trivial⟩
                      case measure => simp [intOf]
            · obtain rfl : k = 3 := by omega
              have hsm := someTo3 HK.out
              rw [HG.out] at hsm
              have hok := HK.out
              rw [okTo3] at hok
              cases g
              · have hbad : stepR d i = false := by rw [HST.out, hok, ← hsm]; simp
                have HF := Lib.hid (HBAD.out hbad)
                clear hbad hsm hok
                go_wp2_with fail
                go_ret
                exact ⟨by rw [HF.out]; rfl, hB4⟩
              · have hgood : stepR d i = true := by rw [HST.out, hok, ← hsm, HI1.out, HP.out, HI2.out]; rfl
                have HN : Hid (∀ j, j < i + 1 → stepR d j = true) := fun j hj => by
                  by_cases e : j = i
                  · subst e; exact hgood
                  · exact HS.out j (by omega)
                clear hgood hsm hok
                go_wp2_with fail
                go_roundw
                case rel => exact ⟨i + 1, by go_num, by omega, HN, hB4⟩
                case measure => simp [intOf]; omega
        · have HF := Lib.hid (HBAD.out (HB1.out rfl))
          clear HB1 HB2 hX4
          go_wp2_with fail
          go_ret
          exact ⟨by rw [HF.out]; rfl, hB4⟩
    · have hie : i = n := by omega
      have hall : rightB d = true := rightB_true.2 (fun j hj => HS.out j (by rw [HD.out] at hj; omega))
      have HF := Lib.hid hall
      clear hall HS
      go_wp2_with fail
      go_ret
      exact ⟨by rw [HF.out]; rfl, hB⟩
end Go.Proofs.Ytfdphpmcgidmiaa.Kb
