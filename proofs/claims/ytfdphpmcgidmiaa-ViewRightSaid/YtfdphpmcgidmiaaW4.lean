/- Contracts and plain facts, several texts of mine in one: RangesOw, RangesRt, QTail, NewVar, PlanR, View, View2. No condition. -/
import Derived.Test.YtfdphpmcgidmiaaW3
import Derived.StillTail
import Derived.Lib.QuietBelow
import Derived.Deep.MidRow
import Derived.Deep.CutBlock
import Derived.Deep.DeepCutAuto

/- What Owlt answers of a right table: the one range that covers. No condition. -/
namespace Go.Proofs.Ytfdphpmcgidmiaa.Kr
open Go.ChangeShapes Go.WideShapes Go.ChangeAt Go.RowKit Go.Sort
set_option linter.unusedSimpArgs false
set_option linter.unusedVariables false
def befR (a b : Rg) : Prop := ltR a b ∧ (a.fr = b.fr → a.tn = b.tn → a.en ≤ b.st)
def covR (cf ct cs ce : Int) (x : Rg) : Bool := decide (x.fr = cf ∧ x.tn = ct ∧ x.st ≤ cs ∧ ce ≤ x.en)
/-- In order, none longer than nothing. -/
structure SortR (d : List Rg) : Prop where
  ord : d.Pairwise befR
  span : ∀ x ∈ d, x.st < x.en ∧ 0 ≤ x.ow
theorem SortR.filter {d : List Rg} (h : SortR d) (p : Rg → Bool) : SortR (d.filter p) :=
  ⟨h.ord.filter p, fun x hx => h.span x (List.mem_filter.1 hx).1⟩
theorem rightB_okR {d : List Rg} (h : rightB d = true) {i : Nat} (hi : i < d.length) : okR (gRg d i) = true := by
  have := (rightB_true.1 h).2 i hi
  unfold stepB at this
  simp at this
  exact this.1
theorem rightB_next {d : List Rg} (h : rightB d = true) {i : Nat} (hi : i + 1 < d.length) : befR (gRg d i) (gRg d (i + 1)) := by
  have h0 := (rightB_true.1 h).2 (i + 1) hi
  have h1 := okR_span (rightB_okR h hi)
  have h2 := okR_span (rightB_okR h (i := i) (by omega))
  unfold stepB at h0
  simp [overR] at h0
  obtain ⟨_, h3, h4⟩ := h0
  rcases cmpR_spec (gRg d i) (gRg d (i + 1)) with ⟨hl, e⟩ | ⟨_, _, _, e⟩ | ⟨_, e⟩
  · refine ⟨hl, fun e1 e2 => ?_⟩
    unfold ltR at hl
    omega
  · omega
  · omega
theorem befR_trans {a b c : Rg} (h1 : befR a b) (h2 : befR b c) (hb : b.st < b.en) : befR a c := by
  obtain ⟨l1, r1⟩ := h1
  obtain ⟨l2, r2⟩ := h2
  unfold ltR at l1 l2
  refine ⟨by unfold ltR; omega, fun e1 e2 => ?_⟩
  have := r1 (by omega) (by omega)
  have := r2 (by omega) (by omega)
  omega
theorem rightB_far {d : List Rg} (h : rightB d = true) {i : Nat} : ∀ k, i + 1 + k < d.length → befR (gRg d i) (gRg d (i + 1 + k))
  | 0, hk => rightB_next h hk
  | k + 1, hk => befR_trans (rightB_far h k (by omega)) (rightB_next h (i := i + 1 + k) (by omega)) (okR_span (rightB_okR h (by omega))).1
theorem gRg_elem {d : List Rg} {j : Nat} (h : j < d.length) : gRg d j = d[j] := by
  unfold gRg
  rw [List.getD_eq_getElem?_getD, List.getElem?_eq_getElem h]
  rfl
theorem sort_of_right {d : List Rg} (h : rightB d = true) : SortR d := by
  refine ⟨?_, fun x hx => ?_⟩
  · rw [List.pairwise_iff_getElem]
    intro i j hi hj hij
    have := rightB_far h (i := i) (j - i - 1) (by omega)
    rw [show i + 1 + (j - i - 1) = j from by omega] at this
    rw [gRg_elem hi, gRg_elem hj] at this
    exact this
  · obtain ⟨j, hj, rfl⟩ := mem_gRg hx
    exact ⟨(okR_span (rightB_okR h hj)).1, (okR_span (rightB_okR h hj)).2.1⟩
theorem SortR.at_ {d : List Rg} (h : SortR d) {i j : Nat} (hij : i < j) (hj : j < d.length) : befR (gRg d i) (gRg d j) := by
  rw [gRg_elem hj, gRg_elem (by omega)]
  exact List.pairwise_iff_getElem.1 h.ord i j (by omega) hj hij
theorem SortR.sp {d : List Rg} (h : SortR d) {j : Nat} (hj : j < d.length) : (gRg d j).st < (gRg d j).en ∧ 0 ≤ (gRg d j).ow := h.span _ (gRg_mem hj)
theorem waysI_spec (a : Rg) (cf ct : Int) : ((a.fr < cf ∨ a.fr = cf ∧ a.tn < ct) ∧ waysI a ⟨cf, ct, 0, 0, 0⟩ = -1) ∨ (a.fr = cf ∧ a.tn = ct ∧ waysI a ⟨cf, ct, 0, 0, 0⟩ = 0) ∨ ((cf < a.fr ∨ a.fr = cf ∧ ct < a.tn) ∧ waysI a ⟨cf, ct, 0, 0, 0⟩ = 1) := by
  unfold waysI
  rcases cmpI_spec a.fr cf with ⟨h1, e1⟩ | ⟨h1, e1⟩ | ⟨h1, e1⟩ <;> rcases cmpI_spec a.tn ct with ⟨h2, e2⟩ | ⟨h2, e2⟩ | ⟨h2, e2⟩ <;>
    simp only [e1, e2, orF] <;> simp <;> omega
theorem passP_iff {d : List Rg} {cf ct ce : Int} {i : Nat} : passP d cf ct ce i = true ↔ (cf < (gRg d i).fr ∨ (gRg d i).fr = cf ∧ ct < (gRg d i).tn) ∨ ((gRg d i).fr = cf ∧ (gRg d i).tn = ct ∧ ce ≤ (gRg d i).en) := by
  unfold passP
  rcases waysI_spec (gRg d i) cf ct with ⟨h1, e1⟩ | ⟨h1, h2, e1⟩ | ⟨h1, e1⟩ <;> rw [e1] <;> simp <;> omega
theorem passP_up {d : List Rg} (h : SortR d) {cf ct ce : Int} {i j : Nat} (hij : i ≤ j) (hj : j < d.length) (hp : passP d cf ct ce i = true) : passP d cf ct ce j = true := by
  rcases Nat.lt_or_eq_of_le hij with hij | rfl
  · rw [passP_iff] at hp ⊢
    obtain ⟨h1, h2⟩ := h.at_ hij hj
    have h3 := h.sp hj
    unfold ltR at h1
    by_cases e1 : (gRg d i).fr = (gRg d j).fr
    · by_cases e2 : (gRg d i).tn = (gRg d j).tn
      · have := h2 e1 e2
        omega
      · omega
    · omega
  · exact hp
/-- What a table of ranges tells of a contact: whom it covers, or none. -/
def Tells (d : List Rg) (cf ct cs ce o : Int) (b : Bool) : Prop :=
  (b = true ∧ ∃ x ∈ d, covR cf ct cs ce x = true ∧ o = x.ow) ∨ (b = false ∧ o = 0 ∧ ∀ x ∈ d, covR cf ct cs ce x = false)
theorem tells_of {d : List Rg} (h : SortR d) {cf ct cs ce : Int} {n i : Nat} {o : Int} {b : Bool} (hd : d.length = n) (hc : cs < ce) (ha : AskAt d cf ct ce n i) (ho : owR d cf ct cs n i = (o, b)) : Tells d cf ct cs ce o b := by
  obtain ⟨hi, h1, h2⟩ := ha
  unfold owR at ho
  by_cases hg : i = n ∨ waysI (gRg d i) ⟨cf, ct, 0, 0, 0⟩ ≠ 0 ∨ cs < (gRg d i).st
  · rw [if_pos hg] at ho
    injection ho with e1 e2
    refine .inr ⟨e2.symm, e1.symm, fun x hx => ?_⟩
    obtain ⟨j, hj, rfl⟩ := mem_gRg hx
    cases hcv : covR cf ct cs ce (gRg d j)
    · rfl
    · exfalso
      unfold covR at hcv
      rw [decide_eq_true_eq] at hcv
      obtain ⟨c1, c2, c3, c4⟩ := hcv
      have hpj : passP d cf ct ce j = true := passP_iff.2 (.inr ⟨c1, c2, c4⟩)
      have hij : i ≤ j := by
        rcases h1 with h1 | h1
        · omega
        · by_cases hlt : j < i
          · rw [passP_up h (by omega : j ≤ i - 1) (by omega) hpj] at h1
            cases h1
          · omega
      have hin : i < n := by omega
      have hpi : passP d cf ct ce i = true := by
        rcases h2 with h2 | h2
        · omega
        · exact h2
      rw [passP_iff] at hpi
      rcases Nat.lt_or_eq_of_le hij with hij | rfl
      · obtain ⟨b1, b2⟩ := h.at_ hij hj
        unfold ltR at b1
        by_cases e1 : (gRg d i).fr = (gRg d j).fr
        · by_cases e2 : (gRg d i).tn = (gRg d j).tn
          · have := b2 e1 e2
            omega
          · omega
        · omega
      · rcases waysI_spec (gRg d i) cf ct with ⟨g1, e1⟩ | ⟨g1, g2, e1⟩ | ⟨g1, e1⟩ <;> rw [e1] at hg <;> omega
  · rw [if_neg hg] at ho
    injection ho with e1 e2
    have hin : i < n := by omega
    have hw : waysI (gRg d i) ⟨cf, ct, 0, 0, 0⟩ = 0 := by
      by_cases e : waysI (gRg d i) ⟨cf, ct, 0, 0, 0⟩ = 0
      · exact e
      · exact absurd (.inr (.inl e)) hg
    have hpi : passP d cf ct ce i = true := by
      rcases h2 with h2 | h2
      · omega
      · exact h2
    rw [passP_iff] at hpi
    refine .inl ⟨e2.symm, gRg d i, gRg_mem (by omega), ?_, e1.symm⟩
    unfold covR
    rw [decide_eq_true_eq]
    rcases waysI_spec (gRg d i) cf ct with ⟨g1, e1⟩ | ⟨g1, g2, e1⟩ | ⟨g1, e1⟩ <;> omega
/-- One at most covers. -/
theorem cov_one {d : List Rg} (h : SortR d) {cf ct cs ce : Int} (hc : cs < ce) {i j : Nat} (hi : i < d.length) (hj : j < d.length) (h1 : covR cf ct cs ce (gRg d i) = true) (h2 : covR cf ct cs ce (gRg d j) = true) : i = j := by
  unfold covR at h1 h2
  rw [decide_eq_true_eq] at h1 h2
  rcases Nat.lt_trichotomy i j with hl | e | hl
  · have := (h.at_ hl hj).2 (by omega) (by omega)
    omega
  · exact e
  · have := (h.at_ hl hi).2 (by omega) (by omega)
    omega
theorem tells_same {d e : List Rg} (h : SortR d) {cf ct cs ce o o' : Int} {b b' : Bool} (hc : cs < ce) (hsub : ∀ x ∈ e, x ∈ d) (hcov : ∀ x ∈ d, covR cf ct cs ce x = true → x ∈ e) (h1 : Tells d cf ct cs ce o b) (h2 : Tells e cf ct cs ce o' b') : o = o' ∧ b = b' := by
  rcases h1 with ⟨rfl, x, hx, cx, rfl⟩ | ⟨rfl, rfl, hn⟩ <;> rcases h2 with ⟨rfl, y, hy, cy, rfl⟩ | ⟨rfl, rfl, hn'⟩
  · obtain ⟨i, hi, rfl⟩ := mem_gRg hx
    obtain ⟨j, hj, rfl⟩ := mem_gRg (hsub y hy)
    obtain rfl := cov_one h hc hi hj cx cy
    exact ⟨rfl, rfl⟩
  · rw [hn' x (hcov x hx cx)] at cx; cases cx
  · rw [hn y (hsub y hy)] at cy; cases cy
  · exact ⟨rfl, rfl⟩
end Go.Proofs.Ytfdphpmcgidmiaa.Kr

/- What is right stays right: a filter, a new owlt, one more. No condition. -/
namespace Go.Proofs.Ytfdphpmcgidmiaa.Kr
open Go.ChangeShapes Go.WideShapes Go.ChangeAt Go.RowKit Go.Sort
set_option linter.unusedSimpArgs false
set_option linter.unusedVariables false
theorem right_of {d : List Rg} (hn : d.length ≤ 4096) (hok : ∀ x ∈ d, okR x = true) (hs : d.Pairwise befR) : rightB d = true := by
  rw [rightB_true]
  refine ⟨hn, fun i hi => ?_⟩
  unfold stepB
  rw [hok _ (gRg_mem hi), Bool.true_and]
  by_cases h0 : i = 0
  · simp [h0]
  · have hb : befR (gRg d (i - 1)) (gRg d i) := by
      rw [gRg_elem hi, gRg_elem (by omega)]
      exact List.pairwise_iff_getElem.1 hs (i - 1) i (by omega) hi (by omega)
    obtain ⟨b1, b2⟩ := hb
    have hc : cmpR (gRg d (i - 1)) (gRg d i) < 0 := by
      rcases cmpR_spec (gRg d (i - 1)) (gRg d i) with ⟨_, e⟩ | ⟨e1, e2, e3, e⟩ | ⟨hl, e⟩
      · omega
      · unfold ltR at b1; omega
      · unfold ltR at b1 hl; omega
    have ho : overR (gRg d (i - 1)) (gRg d i) = false := by
      unfold overR
      rw [decide_eq_false_iff_not]
      rintro ⟨e1, e2, e3, e4⟩
      have := b2 e1 e2
      omega
    rw [ho]
    simp [hc]
theorem right_ok {d : List Rg} (h : rightB d = true) : ∀ x ∈ d, okR x = true := fun x hx => by
  obtain ⟨j, hj, rfl⟩ := mem_gRg hx
  exact rightB_okR h hj
theorem right_filter {d : List Rg} (h : rightB d = true) (p : Rg → Bool) : rightB (d.filter p) = true :=
  right_of (Nat.le_trans (List.length_filter_le _ _) (rightB_true.1 h).1) (fun x hx => right_ok h x (List.mem_filter.1 hx).1) ((sort_of_right h).ord.filter p)
theorem fresh_over {d : List Rg} {r : Rg} (hm : mayF d r = 0) : d.length < 4096 ∧ ∀ y ∈ d, overR y r = false := by
  unfold mayF at hm
  split at hm
  · cases hm
  · split at hm
    · cases hm
    · split at hm
      · cases hm
      · rename_i h1 h2 h3
        refine ⟨by omega, fun y hy => ?_⟩
        cases e : overR y r
        · rfl
        · exact absurd (List.any_eq_true.2 ⟨y, hy, e⟩) h3
theorem ltR_trans {a b c : Rg} (h1 : ltR a b) (h2 : ltR b c) : ltR a c := by unfold ltR at *; omega
theorem right_ins {d : List Rg} {r : Rg} {i : Nat} (h : rightB d = true) (hm : mayF d r = 0) (hi : i ≤ d.length) (h1 : i = 0 ∨ cmpR (gRg d (i - 1)) r < 0) (h2 : i = d.length ∨ 0 ≤ cmpR (gRg d i) r) : rightB (insR d i r) = true := by
  obtain ⟨hok, hfr⟩ := fresh_of h hm
  obtain ⟨hlen, hov⟩ := fresh_over hm
  have hs := sort_of_right h
  have hrs := okR_span hok
  have hbef : ∀ a ∈ d.take i, befR a r := fun a ha => by
    obtain ⟨j, hj, rfl⟩ := List.mem_take_iff_getElem.1 ha
    have hjd : j < d.length := by omega
    have hji : j < i := by omega
    have hl : ltR (gRg d (i - 1)) r := by
      rcases h1 with h1 | h1
      · omega
      · rcases cmpR_spec (gRg d (i - 1)) r with ⟨hl, _⟩ | ⟨_, _, _, e⟩ | ⟨_, e⟩
        · exact hl
        · omega
        · omega
    have hl2 : ltR (gRg d j) r := by
      by_cases e : j = i - 1
      · rw [e]; exact hl
      · exact ltR_trans (hs.at_ (by omega : j < i - 1) (by omega)).1 hl
    rw [← gRg_elem hjd]
    refine ⟨hl2, fun e1 e2 => ?_⟩
    have ho := hov _ (gRg_mem hjd)
    unfold overR at ho
    rw [decide_eq_false_iff_not] at ho
    unfold ltR at hl2
    by_cases hx : (gRg d j).en ≤ r.st
    · exact hx
    · exact absurd ⟨e1, e2, by omega, by omega⟩ ho
  have haft : ∀ b ∈ d.drop i, befR r b := fun b hb => by
    obtain ⟨j, hj, rfl⟩ := List.mem_drop_iff_getElem.1 hb
    have hjd : i + j < d.length := by omega
    have hl : ltR r (gRg d i) := by
      rcases h2 with h2 | h2
      · omega
      · rcases cmpR_spec (gRg d i) r with ⟨_, e⟩ | ⟨e1, e2, e3, e⟩ | ⟨hl, _⟩
        · omega
        · have := hfr _ (gRg_mem (by omega : i < d.length))
          unfold sameR at this
          rw [decide_eq_false_iff_not] at this
          exact absurd ⟨e1, e2, e3⟩ this
        · exact hl
    have hl2 : ltR r (gRg d (i + j)) := by
      by_cases e : j = 0
      · subst e; exact hl
      · exact ltR_trans hl (hs.at_ (by omega : i < i + j) hjd).1
    rw [← gRg_elem hjd]
    refine ⟨hl2, fun e1 e2 => ?_⟩
    have ho := hov _ (gRg_mem hjd)
    have hsp := hs.sp hjd
    unfold overR at ho
    rw [decide_eq_false_iff_not] at ho
    unfold ltR at hl2
    by_cases hx : r.en ≤ (gRg d (i + j)).st
    · exact hx
    · exact absurd ⟨e1.symm, e2.symm, by omega, by omega⟩ ho
  refine right_of (by rw [insR_length r hi]; omega) (fun x hx => ?_) ?_
  · unfold insR at hx
    simp only [List.mem_append, List.mem_singleton] at hx
    rcases hx with (hx | rfl) | hx
    · exact right_ok h x (List.mem_of_mem_take hx)
    · exact hok
    · exact right_ok h x (List.mem_of_mem_drop hx)
  · unfold insR
    have hp := hs.ord
    rw [← List.take_append_drop i d, List.pairwise_append] at hp
    rw [List.append_assoc, List.pairwise_append]
    refine ⟨hp.1, ?_, fun a ha b hb => ?_⟩
    · rw [List.singleton_append, List.pairwise_cons]
      exact ⟨haft, hp.2.1⟩
    · rw [List.singleton_append, List.mem_cons] at hb
      rcases hb with rfl | hb
      · exact hbef a ha
      · exact hp.2.2 a ha b hb
theorem gRg_set {d : List Rg} {q j : Nat} (x : Rg) (hj : j < d.length) : gRg (d.set q x) j = if q = j then x else gRg d j := by
  rw [gRg_elem (by rw [List.length_set]; exact hj), List.getElem_set, gRg_elem hj]
theorem okR_ow {x : Rg} {o : Int} (h : okR x = true) (h0 : 0 ≤ o) (h1 : o ≤ 2147483647) : okR (withOw x o) = true := by
  unfold okR rangeB at h ⊢
  simp only [withOw]
  simp only [Bool.and_eq_true] at h ⊢
  refine ⟨⟨h.1.1, h.1.2⟩, ?_⟩
  unfold inB
  simp
  omega
theorem right_set {d : List Rg} {q : Nat} {o : Int} (h : rightB d = true) (hq : q < d.length) (h0 : 0 ≤ o) (h1 : o ≤ 2147483647) : rightB (d.set q (withOw (gRg d q) o)) = true := by
  have hs := sort_of_right h
  refine right_of (by rw [List.length_set]; exact (rightB_true.1 h).1) (fun x hx => ?_) ?_
  · obtain ⟨j, hj, rfl⟩ := mem_gRg hx
    rw [List.length_set] at hj
    rw [gRg_set _ hj]
    split
    · exact okR_ow (rightB_okR h hq) h0 h1
    · exact rightB_okR h hj
  · rw [List.pairwise_iff_getElem]
    intro i j hi hj hij
    rw [List.length_set] at hi hj
    have hb := hs.at_ hij hj
    have hi2 := gRg_set (d := d) (q := q) (withOw (gRg d q) o) hi
    have hj2 := gRg_set (d := d) (q := q) (withOw (gRg d q) o) hj
    rw [gRg_elem (by rw [List.length_set]; exact hi)] at hi2
    rw [gRg_elem (by rw [List.length_set]; exact hj)] at hj2
    rw [hi2, hj2]
    by_cases e1 : q = i
    · subst e1
      rw [if_pos rfl, if_neg (by omega)]
      exact hb
    · rw [if_neg e1]
      by_cases e2 : q = j
      · subst e2
        rw [if_pos rfl]
        exact hb
      · rw [if_neg e2]
        exact hb
end Go.Proofs.Ytfdphpmcgidmiaa.Kr

/- A region that draws its order: its first n operations are quiet in a class of worlds (one walk serves every order), all that follows is forced in the order of the text. No condition. -/
namespace Go.Proofs.Ytfdphpmcgidmiaa
open Go.Sort Go.RowKit
set_option linter.unusedSimpArgs false
set_option linter.unusedVariables false
section
variable {P : Program} {ops : Array Oper} {md : Region.Mode} {C : World → Prop}

def wpAnyLQ (P : Program) (md : Region.Mode) (ops : Array Oper) (C : World → Prop) (n : Nat) (L : Array Bool → Act → Prop) : Nat → Array Bool → Act → Prop
  | 0, listed, a => L listed a
  | f + 1, listed, a =>
    Region.ready md ops listed ≠ [] ∧ ∀ i ∈ Region.ready md ops listed, i < n ∧ qOp P ops C i (wpAnyLQ P md ops C n L f (listed.setIfInBounds i true)) a

theorem wpAny_of_headQ {n g : Nat} {L : Array Bool → Act → Prop} {Q' : Exit → Act → World → Prop} (hL : ∀ listed a w, C w → L listed a → wpAny P md ops Q' g listed a w) :
    ∀ (f : Nat) (listed : Array Bool) (a : Act) (w : World), C w → wpAnyLQ P md ops C n L f listed a → wpAny P md ops Q' (f + g) listed a w
  | 0, listed, a, w, hw, h => by rw [Nat.zero_add]; exact hL _ _ _ hw h
  | f + 1, listed, a, w, hw, h => by
    rw [show f + 1 + g = (f + g) + 1 by omega]
    exact ⟨fun h0 => absurd h0 h.1, fun i hi => wpOp_of_qOp hw (fun a' w' hw' h' => wpAny_of_headQ hL f _ a' w' hw' h') (h.2 i hi).2⟩

theorem wpAnyLQ_first {n i : Nat} {oi : Oper} {v : Value} {L : Array Bool → Act → Prop} (hi : ops[i]? = some oi) (hsel : ∀ (j : Nat) (o : Oper) cs b, ops[j]? = some o → o.op ≠ .select cs b)
    (hs : Region.sinkB md ops n = true) (hc : Region.chainB md ops n = true) (hn : n < ops.size) (hin : i < n)
    (hdone : ∀ listed a, L listed a → ∀ j ∈ Region.ready md ops listed, n ≤ j) :
    ∀ (f : Nat) (listed : Array Bool) (a : Act), HeadInv md ops n listed →
      (∀ j oj, ops[j]? = some oj → j ≠ i → listed.getD j true = false → (∀ e ∈ oj.after, Region.binds md e = true → e.on ≠ i) → oi.apart ops oj = true) →
      i ∈ Region.ready md ops listed → YieldsIn P ops C oi v a →
      wpAnyLQ P md ops C n L f (listed.setIfInBounds i true) (a.put oi.dst v) → wpAnyLQ P md ops C n L (f + 1) listed a := by
  intro f
  induction f with
  | zero =>
    intro listed a inv _ hr hy H
    have hun := (mem_ready.1 hr).1
    refine ⟨fun h => (by rw [h] at hr; cases hr), fun j hj => ?_⟩
    have hjn : j < n := by
      rcases Nat.lt_or_ge j n with h | h
      · exact h
      · exact absurd hj (tail_waits hs hc hn inv _ i rfl hin hun j h)
    refine ⟨hjn, ?_⟩
    by_cases hji : j = i
    · subst hji; exact hy.qOp hi H
    · have := hdone _ _ H j (ready_mono hj hji)
      omega
  | succ f ih =>
    intro listed a inv hfree hr hy H
    have hun := (mem_ready.1 hr).1
    refine ⟨fun h => (by rw [h] at hr; cases hr), fun j hj => ?_⟩
    have hjn : j < n := by
      rcases Nat.lt_or_ge j n with h | h
      · exact h
      · exact absurd hj (tail_waits hs hc hn inv _ i rfl hin hun j h)
    refine ⟨hjn, ?_⟩
    by_cases hji : j = i
    · subst hji; exact hy.qOp hi H
    · have h1 := (H.2 j (ready_mono hj hji)).2
      obtain ⟨hjun, oj, hoj, hall⟩ := mem_ready.1 hj
      have hnot : ∀ e ∈ oj.after, Region.binds md e = true → e.on ≠ i := fun e he hb heq => by
        have h1 := hall e he hb
        rw [heq, getD_both hun] at h1
        cases h1
      have h2 := qOp_put hoj (hfree j oj hoj hji hjun hnot) (fun cs b => hsel i oi cs b hi) (fun cs b => hsel j oj cs b hoj) hy h1
      have hfree' : ∀ k ok, ops[k]? = some ok → k ≠ i → (listed.setIfInBounds j true).getD k true = false →
          (∀ e ∈ ok.after, Region.binds md e = true → e.on ≠ i) → oi.apart ops ok = true := fun k ok hk hki hun hno => by
        refine hfree k ok hk hki ?_ hno
        by_cases hjk : j = k
        · subst hjk; exact hjun
        · rw [getD_set_ne true hjk] at hun; exact hun
      refine qOp_mono (fun a' h3 => ih (listed.setIfInBounds j true) a' (inv.set hj hjn) hfree' (ready_mono hr (Ne.symm hji)) h3.1 ?_) h2
      rw [Array.setIfInBounds_comm _ _ hji]
      exact h3.2

theorem wpAnyLQ_lex {n g : Nat} {Lq : Act → Prop} (hsel : Region.noSelect ops = true) (hs : Region.sinkB md ops n = true) (hc : Region.chainB md ops n = true) (hn : n < ops.size) :
    ∀ (l : List Oper) (k : Nat) (listed : Array Bool) (a : Act), (∀ j, j < l.length → l[j]? = ops[k + j]?) → k + l.length = n → HeadInv md ops n listed →
    Region.lexHead md ops g l.length k listed = true → wpQuiet P ops C Lq l a →
    wpAnyLQ P md ops C n (fun listed' a' => Region.seqB md ops g n listed' = true ∧ Lq a') l.length listed a
  | [], k, listed, a, _, hk, _, hB, h => by
    have : k = n := by simpa using hk
    subst this
    exact ⟨by simpa [Region.lexHead] using hB, h⟩
  | o :: l, k, listed, a, hl, hk, inv, hB, h => by
    have h0 : ops[k]? = some o := by simpa using (hl 0 (by simp)).symm
    simp only [List.length_cons, Region.lexHead, Bool.and_eq_true] at hB
    obtain ⟨⟨hr, hf⟩, hB'⟩ := hB
    have hkn : k < n := by simp only [List.length_cons] at hk; omega
    have hr' : k ∈ Region.ready md ops listed := by simpa using hr
    have hst : qOp P ops C k (wpQuiet P ops C Lq l) a := by unfold qOp; simp only [h0]; exact h
    obtain ⟨v, hy, hK⟩ := yieldsIn_of_qOp h0 hst
    exact wpAnyLQ_first h0 (Region.noSelect_spec hsel) hs hc hn hkn (fun listed' a' hL => seqB_ready hL.1) l.length listed a inv (Region.free_spec h0 hf) hr' hy
      (wpAnyLQ_lex hsel hs hc hn l (k + 1) _ _ (fun j hj => by have := hl (j + 1) (by simp; omega); simpa [Nat.add_assoc, Nat.add_comm 1 j] using this) (by simp only [List.length_cons] at hk; omega) (inv.set hr' hkn) hB' hK)

/-! A gate: the first n operations are quiet, the last of them waits for all the others, and whatever follows waits for it. -/
def gateB (md : Region.Mode) (ops : Array Oper) (n : Nat) : Bool :=
  (List.range ops.size).all fun t => decide (t < n) || (List.range t).any fun j => decide (n ≤ j + 1) && Region.waitsFor md ops t j
def lexFin : Nat → Nat → Array Bool → Array Bool
  | 0, _, listed => listed
  | f + 1, k, listed => lexFin f (k + 1) (listed.setIfInBounds k true)
def lexTo (md : Region.Mode) (ops : Array Oper) : Nat → Nat → Array Bool → Bool
  | 0, _, _ => true
  | f + 1, k, listed => (Region.ready md ops listed).contains k && Region.free md ops listed k && lexTo md ops f (k + 1) (listed.setIfInBounds k true)
def gated (md : Region.Mode) (ops : Array Oper) (m : Nat) : Bool :=
  Region.noSelect ops && decide (m + 1 ≤ ops.size) && Region.sinkB md ops m && gateB md ops (m + 1) && lexTo md ops (m + 1) 0 (Array.replicate ops.size false) &&
    (Region.ready md ops (lexFin (m + 1) 0 (Array.replicate ops.size false))).all fun j => decide (m + 1 ≤ j)

theorem head_all {m n : Nat} {listed : Array Bool} (hs : Region.sinkB md ops m = true) (inv : HeadInv md ops n listed) (hm : listed.getD m false = true) :
    ∀ (d i : Nat), m - i = d → i ≤ m → listed.getD i false = true := by
  intro d
  induction d using Nat.strongRecOn with
  | _ d ih =>
    intro i hd hi
    by_cases e : i = m
    · subst e; exact hm
    · have h1 := List.all_eq_true.1 hs i (List.mem_range.2 (by omega))
      obtain ⟨j, hj, hj2⟩ := List.any_eq_true.1 h1
      simp only [Bool.and_eq_true, decide_eq_true_eq] at hj2
      obtain ⟨oj, hoj, e', he, hb, hon⟩ := Region.waitsFor_spec hj2.2
      have hjle : j ≤ m := by have := List.mem_range.1 hj; omega
      have hl := ih (m - j) (by omega) j rfl hjle
      have h2 := inv.closed j oj hoj hl e' he hb
      rwa [hon] at h2

theorem gate_waits {m : Nat} {listed : Array Bool} (hs : Region.sinkB md ops m = true) (hg : gateB md ops (m + 1) = true) (inv : HeadInv md ops (m + 1) listed) :
    ∀ (i : Nat), i < m + 1 → listed.getD i true = false → ∀ t, m + 1 ≤ t → t ∉ Region.ready md ops listed := by
  intro i hi hun t ht hr
  obtain ⟨_, ot, hot, hall⟩ := mem_ready.1 hr
  have htlt : t < ops.size := (Array.getElem?_eq_some_iff.1 hot).1
  have h1 := List.all_eq_true.1 hg t (List.mem_range.2 htlt)
  simp only [Bool.or_eq_true, decide_eq_true_eq] at h1
  rcases h1 with h1 | h1
  · omega
  · obtain ⟨j, hj, hj2⟩ := List.any_eq_true.1 h1
    simp only [Bool.and_eq_true, decide_eq_true_eq] at hj2
    obtain ⟨o', ho', e, he, hb, hon⟩ := Region.waitsFor_spec hj2.2
    have : o' = ot := Option.some.inj (ho'.symm.trans hot)
    subst this
    have h2 := hall e he hb
    rw [hon] at h2
    have hjt : j < t := List.mem_range.1 hj
    by_cases hjm : j = m
    · subst hjm
      have h3 := head_all hs inv h2 (j - i) i rfl (by omega)
      rw [getD_both hun] at h3
      cases h3
    · rw [getD_both (inv.tail j (by omega) (by omega))] at h2
      cases h2

theorem wpAnyLQ_gate {n i : Nat} {oi : Oper} {v : Value} {L : Array Bool → Act → Prop} (hi : ops[i]? = some oi) (hsel : ∀ (j : Nat) (o : Oper) cs b, ops[j]? = some o → o.op ≠ .select cs b)
    (hwait : ∀ listed, HeadInv md ops n listed → ∀ i, i < n → listed.getD i true = false → ∀ t, n ≤ t → t ∉ Region.ready md ops listed) (hin : i < n)
    (hdone : ∀ listed a, L listed a → ∀ j ∈ Region.ready md ops listed, n ≤ j) :
    ∀ (f : Nat) (listed : Array Bool) (a : Act), HeadInv md ops (n) listed →
      (∀ j oj, ops[j]? = some oj → j ≠ i → listed.getD j true = false → (∀ e ∈ oj.after, Region.binds md e = true → e.on ≠ i) → oi.apart ops oj = true) →
      i ∈ Region.ready md ops listed → YieldsIn P ops C oi v a →
      wpAnyLQ P md ops C (n) L f (listed.setIfInBounds i true) (a.put oi.dst v) → wpAnyLQ P md ops C (n) L (f + 1) listed a := by
  intro f
  induction f with
  | zero =>
    intro listed a inv _ hr hy H
    have hun := (mem_ready.1 hr).1
    refine ⟨fun h => (by rw [h] at hr; cases hr), fun j hj => ?_⟩
    have hjn : j < n := by
      rcases Nat.lt_or_ge j (n) with h | h
      · exact h
      · exact absurd hj (hwait _ inv i hin hun j h)
    refine ⟨hjn, ?_⟩
    by_cases hji : j = i
    · subst hji; exact hy.qOp hi H
    · have := hdone _ _ H j (ready_mono hj hji)
      omega
  | succ f ih =>
    intro listed a inv hfree hr hy H
    have hun := (mem_ready.1 hr).1
    refine ⟨fun h => (by rw [h] at hr; cases hr), fun j hj => ?_⟩
    have hjn : j < n := by
      rcases Nat.lt_or_ge j (n) with h | h
      · exact h
      · exact absurd hj (hwait _ inv i hin hun j h)
    refine ⟨hjn, ?_⟩
    by_cases hji : j = i
    · subst hji; exact hy.qOp hi H
    · have h1 := (H.2 j (ready_mono hj hji)).2
      obtain ⟨hjun, oj, hoj, hall⟩ := mem_ready.1 hj
      have hnot : ∀ e ∈ oj.after, Region.binds md e = true → e.on ≠ i := fun e he hb heq => by
        have h1 := hall e he hb
        rw [heq, getD_both hun] at h1
        cases h1
      have h2 := qOp_put hoj (hfree j oj hoj hji hjun hnot) (fun cs b => hsel i oi cs b hi) (fun cs b => hsel j oj cs b hoj) hy h1
      have hfree' : ∀ k ok, ops[k]? = some ok → k ≠ i → (listed.setIfInBounds j true).getD k true = false →
          (∀ e ∈ ok.after, Region.binds md e = true → e.on ≠ i) → oi.apart ops ok = true := fun k ok hk hki hun hno => by
        refine hfree k ok hk hki ?_ hno
        by_cases hjk : j = k
        · subst hjk; exact hjun
        · rw [getD_set_ne true hjk] at hun; exact hun
      refine qOp_mono (fun a' h3 => ih (listed.setIfInBounds j true) a' (inv.set hj hjn) hfree' (ready_mono hr (Ne.symm hji)) h3.1 ?_) h2
      rw [Array.setIfInBounds_comm _ _ hji]
      exact h3.2

theorem wpAnyLQ_lexg {n : Nat} {Lq : Act → Prop} {fin : Array Bool} (hsel : Region.noSelect ops = true) (hwait : ∀ listed, HeadInv md ops n listed → ∀ i, i < n → listed.getD i true = false → ∀ t, n ≤ t → t ∉ Region.ready md ops listed)
    (hfin : (Region.ready md ops fin).all (fun j => decide (n ≤ j)) = true) :
    ∀ (l : List Oper) (k : Nat) (listed : Array Bool) (a : Act), (∀ j, j < l.length → l[j]? = ops[k + j]?) → k + l.length = n → HeadInv md ops (n) listed →
    lexTo md ops l.length k listed = true → lexFin l.length k listed = fin → wpQuiet P ops C Lq l a →
    wpAnyLQ P md ops C (n) (fun listed' a' => listed' = fin ∧ Lq a') l.length listed a
  | [], k, listed, a, _, _, _, _, hf, h => ⟨hf, h⟩
  | o :: l, k, listed, a, hl, hk, inv, hB, hf, h => by
    have h0 : ops[k]? = some o := by simpa using (hl 0 (by simp)).symm
    simp only [List.length_cons, lexTo, Bool.and_eq_true] at hB
    obtain ⟨⟨hr, hfr⟩, hB'⟩ := hB
    have hkn : k < n := by simp only [List.length_cons] at hk; omega
    have hr' : k ∈ Region.ready md ops listed := by simpa using hr
    have hst : qOp P ops C k (wpQuiet P ops C Lq l) a := by unfold qOp; simp only [h0]; exact h
    obtain ⟨v, hy, hK⟩ := yieldsIn_of_qOp h0 hst
    exact wpAnyLQ_gate h0 (Region.noSelect_spec hsel) hwait hkn (fun listed' a' hL j hj => by
        rw [hL.1] at hj
        have := List.all_eq_true.1 hfin j hj
        simpa using this) l.length listed a inv (Region.free_spec h0 hfr) hr' hy
      (wpAnyLQ_lexg hsel hwait hfin l (k + 1) _ _ (fun j hj => by have := hl (j + 1) (by simp; omega); simpa [Nat.add_assoc, Nat.add_comm 1 j] using this) (by simp only [List.length_cons] at hk; omega) (inv.set hr' hkn) hB' hf hK)

/-- The first m + 1 operations in one quiet walk; what follows in whatever order, from there on. -/
theorem wp_region_gate {id : Nat} {Q : Exit → Act → World → Prop} {a : Act} {w : World} {l : List Oper} (m : Nat) (hm : P.follows .mixedOrders = true) (hB : gated .any l.toArray m = true)
    (h : wpQuiet P l.toArray (fun w' => ∃ p : Regrown, w' = grow (redrawn w p.d) p.os) (fun a' => ∀ w', (∃ p : Regrown, w' = grow (redrawn w p.d) p.os) → wpAny P .any l.toArray Q (l.length - (m + 1)) (lexFin (m + 1) 0 (Array.replicate l.length false)) a' w') (l.take (m + 1)) a) : (Code.region id l.toArray true).wp P Q a w := by
  simp only [gated, Bool.and_eq_true, decide_eq_true_eq] at hB
  obtain ⟨⟨⟨⟨⟨hsel, hn⟩, hs⟩, hg⟩, hlex⟩, hfin⟩ := hB
  have hn' : m + 1 ≤ l.length := by simpa using hn
  have htl : (l.take (m + 1)).length = m + 1 := by simp; omega
  have hsz : l.toArray.size = l.length := by simp
  rw [hsz] at hlex hfin
  have inv0 : HeadInv .any l.toArray (m + 1) (Array.replicate l.length false) :=
    ⟨by simp, fun j oj _ hl => (by rw [getD_replicate_false] at hl; cases hl), fun t _ ht => getD_in (by simpa using ht) (getD_replicate_false _ _)⟩
  have H := wpAnyLQ_lexg (C := fun w' => ∃ p : Regrown, w' = grow (redrawn w p.d) p.os) (md := .any) (fin := lexFin (m + 1) 0 (Array.replicate l.length false)) hsel (fun _ inv => gate_waits hs hg inv) hfin (l.take (m + 1)) 0 _ a (fun j hj => by
    have hj' : j < m + 1 := by rw [htl] at hj; exact hj
    simp [hj']) (by simpa using htl) inv0 (by rw [htl]; exact hlex) (by rw [htl]) h
  refine wp_region_any hm ?_
  have := wpAny_of_headQ (C := fun w' => ∃ p : Regrown, w' = grow (redrawn w p.d) p.os) (Q' := Q) (g := l.length - (m + 1)) (fun listed a' w' hw' hL => by
    rw [hL.1]
    exact hL.2 w' hw') _ _ _ w.drew ⟨⟨w.drawn + 1, #[]⟩, by rw [grow_empty]; rfl⟩ H
  rw [htl, show m + 1 + (l.length - (m + 1)) = l.length by omega] at this
  simpa using this

/-! A call in the middle: n quiet operations ahead of it, all that follows leaves the world alone. -/
def rootB (md : Region.Mode) (ops : Array Oper) (n : Nat) : Bool :=
  (List.range ops.size).all fun t => decide (t ≤ n) || (List.range t).any fun j => decide (n ≤ j) && Region.waitsFor md ops t j
def midB (md : Region.Mode) (ops : Array Oper) (n : Nat) : Bool :=
  Region.noSelect ops && decide (n < ops.size) && Region.sinkB md ops n && rootB md ops n && lexTo md ops n 0 (Array.replicate ops.size false) &&
    decide (Region.ready md ops (lexFin n 0 (Array.replicate ops.size false)) = [n]) && Region.lexFrom md ops (ops.size - (n + 1)) (n + 1) ((lexFin n 0 (Array.replicate ops.size false)).setIfInBounds n true)

theorem root_waits {n : Nat} {listed : Array Bool} (hs : Region.sinkB md ops n = true) (hg : rootB md ops n = true) (inv : HeadInv md ops n listed) :
    ∀ (i : Nat), i < n → listed.getD i true = false → ∀ t, n ≤ t → t ∉ Region.ready md ops listed := by
  intro i hi hun t ht hr
  obtain ⟨_, ot, hot, hall⟩ := mem_ready.1 hr
  have htlt : t < ops.size := (Array.getElem?_eq_some_iff.1 hot).1
  have h1 := List.all_eq_true.1 hg t (List.mem_range.2 htlt)
  simp only [Bool.or_eq_true, decide_eq_true_eq] at h1
  rcases h1 with h1 | h1
  · have htn : t = n := by omega
    subst htn
    have key : ∀ (d i : Nat), t - i = d → i < t → listed.getD i false = true := by
      intro d
      induction d using Nat.strongRecOn with
      | _ d ih =>
        intro i hd hi
        have h2 := List.all_eq_true.1 hs i (List.mem_range.2 hi)
        obtain ⟨j, hj, hj2⟩ := List.any_eq_true.1 h2
        simp only [Bool.and_eq_true, decide_eq_true_eq] at hj2
        obtain ⟨oj, hoj, e', he, hb, hon⟩ := Region.waitsFor_spec hj2.2
        have hjle : j ≤ t := by have := List.mem_range.1 hj; omega
        by_cases hjt : j = t
        · subst hjt
          have : oj = ot := Option.some.inj (hoj.symm.trans hot)
          subst this
          have h3 := hall e' he hb
          rwa [hon] at h3
        · have hl := ih (t - j) (by omega) j rfl (by omega)
          have h3 := inv.closed j oj hoj hl e' he hb
          rwa [hon] at h3
    have h4 := key _ i rfl hi
    rw [getD_both hun] at h4
    cases h4
  · obtain ⟨j, hj, hj2⟩ := List.any_eq_true.1 h1
    simp only [Bool.and_eq_true, decide_eq_true_eq] at hj2
    obtain ⟨o', ho', e, he, hb, hon⟩ := Region.waitsFor_spec hj2.2
    have : o' = ot := Option.some.inj (ho'.symm.trans hot)
    subst this
    have h2 := hall e he hb
    have hjt : j < t := List.mem_range.1 hj
    rw [hon, getD_both (inv.tail j hj2.1 (by omega))] at h2
    cases h2

theorem wpOp_of {Q : Exit → Act → World → Prop} {i : Nat} {o : Oper} {K : Act → World → Prop} {a : Act} {w : World} (ho : ops[i]? = some o)
    (h : if Region.wanted o (yielded ops a.tmps) = true then Oper.wp P o a w K Q else K (a.put o.dst undef) w) : wpOp P ops Q i K a w := by
  unfold wpOp
  simp only [ho]
  split
  · rename_i hw; simp only [hw, if_true] at h; exact .inl h
  · rename_i hw; simp only [hw] at h; exact h

theorem wp_region_call {id : Nat} {Q : Exit → Act → World → Prop} {a : Act} {w : World} {l : List Oper} (n : Nat) (hm : P.follows .mixedOrders = true) (hB : midB .any l.toArray n = true)
    (h : wpQuiet P l.toArray (fun w' => ∃ p : Regrown, w' = grow (redrawn w p.d) p.os) (fun a' => ∀ w', (∃ p : Regrown, w' = grow (redrawn w p.d) p.os) →
      ∀ K : Act → World → Prop, (∀ a'' w'', wpStill P l.toArray w'' (fun a3 => Q .normal a3 w'') (l.drop (n + 1)) a'' → K a'' w'') → wpOp P l.toArray Q n K a' w') (l.take n) a) : (Code.region id l.toArray true).wp P Q a w := by
  simp only [midB, Bool.and_eq_true, decide_eq_true_eq] at hB
  obtain ⟨⟨⟨⟨⟨⟨hsel, hn⟩, hs⟩, hg⟩, hlex⟩, hfin⟩, hrest⟩ := hB
  have hn' : n < l.length := by simpa using hn
  have htl : (l.take n).length = n := by simp; omega
  have hdl : (l.drop (n + 1)).length = l.length - (n + 1) := by simp
  have hsz : l.toArray.size = l.length := by simp
  rw [hsz] at hlex hfin hrest
  have inv0 : HeadInv .any l.toArray n (Array.replicate l.length false) :=
    ⟨by simp, fun j oj _ hl => (by rw [getD_replicate_false] at hl; cases hl), fun t _ ht => getD_in (by simpa using ht) (getD_replicate_false _ _)⟩
  have H := wpAnyLQ_lexg (C := fun w' => ∃ p : Regrown, w' = grow (redrawn w p.d) p.os) (md := .any) (fin := lexFin n 0 (Array.replicate l.length false)) hsel (fun _ inv => root_waits hs hg inv) (by rw [hfin]; simp) (l.take n) 0 _ a (fun j hj => by
    have hj' : j < n := by rw [htl] at hj; exact hj
    simp [hj']) (by simpa using htl) inv0 (by rw [htl]; exact hlex) (by rw [htl]) h
  refine wp_region_any hm ?_
  have := wpAny_of_headQ (C := fun w' => ∃ p : Regrown, w' = grow (redrawn w p.d) p.os) (Q' := Q) (g := (l.length - (n + 1)) + 1) (fun listed a' w' hw' hL => by
    obtain ⟨rfl, hL⟩ := hL
    refine ⟨fun h0 => (by rw [hfin] at h0; cases h0), fun i hi => ?_⟩
    rw [hfin] at hi
    have hin : i = n := by simpa using hi
    subst hin
    refine hL w' hw' _ (fun a'' w'' hst => ?_)
    have hS := wpAnyS_lex (md := .any) (w := w'') hsel (l.drop (i + 1)) (i + 1) ((lexFin i 0 (Array.replicate l.length false)).setIfInBounds i true) a'' (fun j => by simp [List.getElem?_drop]) (by rw [hdl]; exact hrest) hst
    rw [hdl] at hS
    exact wpAny_of_still (Q' := Q) (fun _ h => h) _ _ _ hS) _ _ _ w.drew ⟨⟨w.drawn + 1, #[]⟩, by rw [grow_empty]; rfl⟩ H
  rw [htl, show n + ((l.length - (n + 1)) + 1) = l.length by omega] at this
  simpa using this

/-- what is forced, by its numbers -/
def idxB (md : Region.Mode) (ops : Array Oper) : List Nat → Array Bool → Bool
  | [], listed => (Region.ready md ops listed).isEmpty
  | k :: ks, listed => decide (Region.ready md ops listed = [k]) && idxB md ops ks (listed.setIfInBounds k true)
def pickL (ks : List Nat) (l : List Oper) : List Oper := ks.flatMap fun k => (l.drop k).take 1
theorem wpAny_of_idx {Q' : Exit → Act → World → Prop} {l : List Oper} : ∀ (ks : List Nat) (listed : Array Bool) (a : Act) (w : World),
    idxB md l.toArray ks listed = true → wpList P l.toArray Q' (pickL ks l) a w → wpAny P md l.toArray Q' ks.length listed a w
  | [], _, _, _, hB, h => ⟨by simpa [idxB] using hB, h⟩
  | k :: ks, listed, a, w, hB, h => by
    simp only [idxB, Bool.and_eq_true, decide_eq_true_eq] at hB
    have hk : k ∈ Region.ready md l.toArray listed := by rw [hB.1]; simp
    obtain ⟨_, o, ho, _⟩ := mem_ready.1 hk
    have ho' : l[k]? = some o := by simpa using ho
    have hp : pickL (k :: ks) l = o :: pickL ks l := by
      have hkl : k < l.length := (List.getElem?_eq_some_iff.1 ho').1
      have e : (l.drop k).take 1 = [o] := by
        rw [List.drop_eq_getElem_cons hkl]
        have := (List.getElem?_eq_some_iff.1 ho').2
        simp [this]
      simp [pickL, e]
    rw [hp] at h
    refine ⟨fun h1 => (by rw [hB.1] at h1; cases h1), fun i hi => ?_⟩
    rw [hB.1] at hi
    have hik : i = k := by simpa using hi
    subst hik
    have hw : wpOp P l.toArray Q' i (wpList P l.toArray Q' (pickL ks l)) a w := by unfold wpOp; simp only [ho]; exact h
    exact wpOp_mono (fun a' w' h' => wpAny_of_idx ks _ a' w' hB.2 h') hw

theorem wp_region_quiet_tail {id : Nat} {Q : Exit → Act → World → Prop} {a : Act} {w : World} {l : List Oper} (n : Nat) (hm : P.follows .mixedOrders = true) (hB : Region.lexTailB .any l.toArray n = true) (hC : C { w with drawn := w.drawn + 1 })
    (h : wpQuiet P l.toArray C (fun a' => ∀ w', C w' → wpList P l.toArray Q (l.drop n) a' w') (l.take n) a) : (Code.region id l.toArray true).wp P Q a w := by
  simp only [Region.lexTailB, Bool.and_eq_true, decide_eq_true_eq] at hB
  obtain ⟨⟨⟨⟨hsel, hn⟩, hs⟩, hc⟩, hlex⟩ := hB
  have hn' : n < l.length := by simpa using hn
  have htl : (l.take n).length = n := by simp; omega
  have hdl : (l.drop n).length = l.toArray.size - n := by simp
  have inv0 : HeadInv .any l.toArray n (Array.replicate l.toArray.size false) :=
    ⟨by simp, fun j oj _ hl => (by rw [getD_replicate_false] at hl; cases hl), fun t _ ht => getD_in (by simpa using ht) (getD_replicate_false _ _)⟩
  have H := wpAnyLQ_lex (C := C) (md := .any) (g := l.toArray.size - n) hsel hs hc hn (l.take n) 0 _ a (fun j hj => by
    have hj' : j < n := by rw [htl] at hj; exact hj
    simp [hj']) (by simpa using htl) inv0 (by rw [htl]; exact hlex) h
  refine wp_region_any hm ?_
  have := wpAny_of_headQ (C := C) (Q' := Q) (g := l.toArray.size - n) (fun listed a' w' hw' hL => by
    have := wpAny_of_seq (md := .any) (Q' := Q) (l.drop n) n listed a' w' (fun j => by simp [List.getElem?_drop]) (by rw [hdl]; exact hL.1) (hL.2 w' hw')
    rwa [hdl] at this) _ _ _ _ hC H
  rw [htl, show n + (l.toArray.size - n) = l.toArray.size by omega] at this
  exact this

/-- at the class 'w, some draws, some new blocks' -/
theorem wp_region_grown_tail {id : Nat} {Q : Exit → Act → World → Prop} {a : Act} {w : World} {l : List Oper} (n : Nat) (hm : P.follows .mixedOrders = true) (hB : Region.lexTailB .any l.toArray n = true)
    (h : wpQuiet P l.toArray (fun w' => ∃ p : Regrown, w' = grow (redrawn w p.d) p.os) (fun a' => ∀ w', (∃ p : Regrown, w' = grow (redrawn w p.d) p.os) → wpList P l.toArray Q (l.drop n) a' w') (l.take n) a) : (Code.region id l.toArray true).wp P Q a w :=
  wp_region_quiet_tail (C := fun w' => ∃ p : Regrown, w' = grow (redrawn w p.d) p.os) n hm hB ⟨⟨w.drawn + 1, #[]⟩, by rw [grow_empty]; rfl⟩ h
end
end Go.Proofs.Ytfdphpmcgidmiaa

/- A region that draws its order, in which a new variable is made by an operation that waits for nothing, and what a call hands back is stored into it: all the others are quiet, whatever stands behind the world: one walk of theirs serves every order. No condition. -/
namespace Go.Proofs.Ytfdphpmcgidmiaa
open Go.Sort Go.RowKit
set_option linter.unusedSimpArgs false
set_option linter.unusedVariables false
section
variable {P : Program} {ops : Array Oper} {md : Region.Mode}
/-- The worlds behind b. -/
def UpOf (b : World) : World → Prop := fun w' => ∃ p : Regrown, w' = grow (redrawn b p.d) p.os
theorem UpOf.below {b w' : World} (h : UpOf b w') : Below b.heap.size b w' := by
  obtain ⟨p, rfl⟩ := h
  exact below_regrown b p.d p.os
theorem UpOf.of {b w' : World} (h : Below b.heap.size b w') : UpOf b w' := regrown_of_below h
theorem UpOf.refl (w : World) : UpOf w w := UpOf.of (Below.refl _ _)
def lexIdx (md : Region.Mode) (ops : Array Oper) : List Nat → Array Bool → Bool
  | [], listed => (Region.ready md ops listed).isEmpty
  | k :: ks, listed => (Region.ready md ops listed).contains k && Region.free md ops listed k && lexIdx md ops ks (listed.setIfInBounds k true)
theorem wpAnyQ_idx {C : World → Prop} {Q : Act → Prop} {l : List Oper} (hs : Region.noSelect l.toArray = true) : ∀ (ks : List Nat) (listed : Array Bool) (a : Act),
    lexIdx md l.toArray ks listed = true → wpQuiet P l.toArray C Q (pickL ks l) a → wpAnyQ P md l.toArray C Q ks.length listed a
  | [], _, _, hB, h => ⟨by simpa [lexIdx] using hB, h⟩
  | k :: ks, listed, a, hB, h => by
    simp only [lexIdx, Bool.and_eq_true] at hB
    obtain ⟨⟨hr, hf⟩, hB'⟩ := hB
    have hk : k ∈ Region.ready md l.toArray listed := by simpa using hr
    obtain ⟨_, o, ho, _⟩ := mem_ready.1 hk
    have ho' : l[k]? = some o := by simpa using ho
    have hp : pickL (k :: ks) l = o :: pickL ks l := by
      have hkl : k < l.length := (List.getElem?_eq_some_iff.1 ho').1
      have e : (l.drop k).take 1 = [o] := by
        rw [List.drop_eq_getElem_cons hkl]
        have := (List.getElem?_eq_some_iff.1 ho').2
        simp [this]
      simp [pickL, e]
    rw [hp] at h
    have hst : qOp P l.toArray C k (wpQuiet P l.toArray C Q (pickL ks l)) a := by unfold qOp; simp only [ho]; exact h
    obtain ⟨v, hy, hK⟩ := yieldsIn_of_qOp ho hst
    exact wpAnyQ_first ho (Region.noSelect_spec hs) ks.length listed a (Region.free_spec ho hf) hk hy (wpAnyQ_idx hs ks _ _ hB' hK)

theorem put_tmps (a : Act) (d : Option Tmp) (v : Value) (e : Tmp) (h : d ≠ some e) : (a.put d v).tmps[e]? = a.tmps[e]? := by
  cases d with
  | none => rfl
  | some d =>
    have hne : d ≠ e := fun he => h (by rw [he])
    simp [Act.put, Array.getElem?_setIfInBounds_ne hne]
theorem put_size (a : Act) (d : Option Tmp) (v : Value) : (a.put d v).tmps.size = a.tmps.size := by
  cases d <;> simp [Act.put]
/-- What an operation left stays: the frame at the end is known, and none that is to come writes there. -/
theorem wpAnyQ_end {C : World → Prop} {F : Act} {e : Tmp} : ∀ (f : Nat) (listed : Array Bool) (a : Act), (∀ j oj, ops[j]? = some oj → listed.getD j true = false → oj.dst ≠ some e) →
    wpAnyQ P md ops C (fun a' => a' = F) f listed a → a.tmps[e]? = F.tmps[e]?
  | 0, _, _, _, h => by rw [h.2]
  | f + 1, listed, a, hd, h => by
    cases hr : Region.ready md ops listed with
    | nil => rw [h.1 hr]
    | cons i is =>
      have hi : i ∈ Region.ready md ops listed := by rw [hr]; simp
      obtain ⟨hun, oi, hoi, _⟩ := mem_ready.1 hi
      obtain ⟨v, _, hK⟩ := yieldsIn_of_qOp hoi (h.2 i hi)
      have := wpAnyQ_end f (listed.setIfInBounds i true) (a.put oi.dst v) (fun j oj hj hl => by
        by_cases hij : i = j
        · subst hij
          have : oj = oi := Option.some.inj (hj.symm.trans hoi)
          subst this
          exact hd i oj hj hun
        · rw [getD_set_ne true hij] at hl
          exact hd j oj hj hl) hK
      rw [← this, put_tmps _ _ _ _ (hd i oi hoi hun)]
theorem wpAnyQ_put {C : World → Prop} {F : Act} {f : Nat} {listed : Array Bool} {a : Act} {d : Option Tmp} {v v' : Value} (hv : ∀ e, d = some e → e < a.tmps.size → (a.put d v').tmps[e]? = F.tmps[e]?)
    (hw : ∀ e, d = some e → e < a.tmps.size → (a.put d v).tmps[e]? = F.tmps[e]?) (h : wpAnyQ P md ops C (fun a' => a' = F) f listed (a.put d v)) : wpAnyQ P md ops C (fun a' => a' = F) f listed (a.put d v') := by
  have e : a.put d v' = a.put d v := by
    cases d with
    | none => rfl
    | some d =>
      by_cases hs : d < a.tmps.size
      · have h1 := hv d rfl hs
        have h2 := hw d rfl hs
        have e1 : (a.put (some d) v').tmps[d]? = some v' := by simp [Act.put, hs]
        have e2 : (a.put (some d) v).tmps[d]? = some v := by simp [Act.put, hs]
        rw [e1] at h1
        rw [e2] at h2
        have := Option.some.inj (h1.trans h2.symm)
        rw [this]
      · simp only [Act.put]
        have hs' : a.tmps.size ≤ d := Nat.not_lt.1 hs
        rw [Array.setIfInBounds_eq_of_size_le hs', Array.setIfInBounds_eq_of_size_le hs']
  rw [e]
  exact h
def dstOnce (ops : Array Oper) : Bool :=
  (List.range ops.size).all fun i => (List.range ops.size).all fun j => decide (i = j) || match ops[i]?, ops[j]? with
    | some oi, some oj => oi.dst.isNone || decide (oi.dst ≠ oj.dst)
    | _, _ => true
theorem dstOnce_spec (h : dstOnce ops = true) {i j : Nat} {oi oj : Oper} {e : Tmp} (hi : ops[i]? = some oi) (hj : ops[j]? = some oj) (hij : i ≠ j) (he : oi.dst = some e) : oj.dst ≠ some e := by
  have hil : i < ops.size := (Array.getElem?_eq_some_iff.1 hi).1
  have hjl : j < ops.size := (Array.getElem?_eq_some_iff.1 hj).1
  have h1 := List.all_eq_true.1 (List.all_eq_true.1 h i (List.mem_range.2 hil)) j (List.mem_range.2 hjl)
  simp only [hi, hj, he, Bool.or_eq_true, decide_eq_true_eq, Option.isNone_some, Bool.false_eq_true, false_or] at h1
  rcases h1 with h1 | h1
  · exact absurd h1 hij
  · exact fun h => h1 h.symm
def lexOrd (md : Region.Mode) (ops : Array Oper) : Bool :=
  (List.range ops.size).all fun i => match ops[i]? with
    | some o => o.after.all fun e => !Region.binds md e || decide (e.on < i)
    | none => true
/-- Where none is ready, all have come up. -/
theorem all_listed (h : lexOrd md ops = true) {listed : Array Bool} (hr : Region.ready md ops listed = []) (hsz : listed.size = ops.size) : ∀ i, i < ops.size → listed.getD i true = true := by
  intro i
  induction i using Nat.strongRecOn with
  | _ i ih =>
    intro hi
    cases hl : listed.getD i true with
    | true => rfl
    | false =>
      have h1 := List.all_eq_true.1 h i (List.mem_range.2 hi)
      have hoi : ops[i]? = some ops[i] := Array.getElem?_eq_getElem hi
      have : i ∈ Region.ready md ops listed := by
        refine mem_ready.2 ⟨hl, ops[i], hoi, fun e he hb => ?_⟩
        simp only [hoi] at h1
        have h2 := Array.all_eq_true_iff_forall_mem.1 h1 e he
        simp only [hb, Bool.not_true, Bool.false_or, decide_eq_true_eq] at h2
        have h3 := ih e.on h2 (by omega)
        have h4 : e.on < listed.size := by omega
        simp [h4] at h3 ⊢
        exact h3
      rw [hr] at this
      cases this
structure NewVar (md : Region.Mode) (ops : Array Oper) (m s : Nat) (om os : Oper) (dm dv : Tmp) (T : TypeId) : Prop where
  lex : lexOrd md ops = true
  once : dstOnce ops = true
  sel : Region.noSelect ops = true
  hm : ops[m]? = some om
  hs : ops[s]? = some os
  md_ : om.dst = some dm
  sd : os.dst = none
  mg : om.guard = none
  sg : os.guard = none
  ma : ∀ e ∈ om.after, Region.binds md e = false
  store : os.op = .store T (.tmp dm) (.tmp dv)
  ne : dm ≠ dv
  waits : Region.waitsFor md ops s m = true
  value : ∀ k ok, ops[k]? = some ok → ok.dst = some dv → Region.waitsFor md ops s k = true
  apart : ∀ k ok, ops[k]? = some ok → k ≠ m → k ≠ s → om.apart ops ok = true
def newVarB (md : Region.Mode) (ops : Array Oper) (m s : Nat) (om os : Oper) (dm dv : Tmp) : Bool :=
  lexOrd md ops && dstOnce ops && Region.noSelect ops && decide (om.dst = some dm) && decide (os.dst = none) && om.guard.isNone && os.guard.isNone && om.after.all (fun e => !Region.binds md e) && decide (dm ≠ dv) &&
    Region.waitsFor md ops s m && ((List.range ops.size).all fun k => match ops[k]? with
      | some ok => (decide (ok.dst ≠ some dv) || Region.waitsFor md ops s k) && (decide (k = m) || decide (k = s) || om.apart ops ok)
      | none => true)
theorem NewVar.of {m s : Nat} {om os : Oper} {dm dv : Tmp} {T : TypeId} (hm : ops[m]? = some om) (hs : ops[s]? = some os) (hst : os.op = .store T (.tmp dm) (.tmp dv)) (h : newVarB md ops m s om os dm dv = true) : NewVar md ops m s om os dm dv T := by
  simp only [newVarB, Bool.and_eq_true, decide_eq_true_eq] at h
  obtain ⟨⟨⟨⟨⟨⟨⟨⟨⟨⟨h1, h2⟩, h3⟩, h4⟩, h5⟩, h6⟩, h7⟩, h8⟩, h9⟩, h10⟩, h11⟩ := h
  refine ⟨h1, h2, h3, hm, hs, h4, h5, by simpa using h6, by simpa using h7, fun e he => ?_, hst, h9, h10, fun k ok hk hd => ?_, fun k ok hk hkm hks => ?_⟩
  · have := Array.all_eq_true_iff_forall_mem.1 h8 e he
    simpa using this
  · have h := List.all_eq_true.1 h11 k (List.mem_range.2 (Array.getElem?_eq_some_iff.1 hk).1)
    simp only [hk, Bool.and_eq_true, Bool.or_eq_true, decide_eq_true_eq, hd] at h
    simpa using h.1
  · have h := List.all_eq_true.1 h11 k (List.mem_range.2 (Array.getElem?_eq_some_iff.1 hk).1)
    simp only [hk, Bool.and_eq_true, Bool.or_eq_true, decide_eq_true_eq, hkm, hks, false_or] at h
    exact h.2
variable {m s : Nat} {om os : Oper} {dm dv : Tmp} {T : TypeId} {F : Act} {w : World}
/-- All but the variable's own operations, from every world behind w. -/
def Rest (P : Program) (md : Region.Mode) (ops : Array Oper) (F : Act) (w : World) (f : Nat) (V : Array Bool) (a : Act) : Prop :=
  ∀ b, Below w.heap.size w b → wpAnyQ P md ops (UpOf b) (fun a' => a' = F) f V a
theorem rest_step (N : NewVar md ops m s om os dm dv T) {f i : Nat} {V : Array Bool} {a : Act} {w' : World} {od : Option Tmp} {pv : Value} {Q' : Exit → Act → World → Prop} {K : Act → World → Prop} (hod : od = none ∨ od = some dm) (hB : Below w.heap.size w w') (hR : Rest P md ops F w (f + 1) V a) (hi : i ∈ Region.ready md ops V) (hm : i ≠ m) (hs : i ≠ s)
    (hVs : V.size = ops.size) (hK : ∀ a1 w'', Below w'.heap.size w' w'' → a1.tmps.size = a.tmps.size → Rest P md ops F w f (V.setIfInBounds i true) a1 → K (a1.put od pv) w'') : wpOp P ops Q' i K (a.put od pv) w' := by
  obtain ⟨hun, oi, hoi, _⟩ := mem_ready.1 hi
  have hsel := N.sel
  have hap := N.apart i oi hoi hm hs
  obtain ⟨h1, h2, h3⟩ := Oper.apart_spec hap
  have hlook : ∀ d, od = some d → d ∉ oi.looksAt ops := fun d hd => by
    rcases hod with rfl | rfl
    · cases hd
    · injection hd with hd
      subst hd
      exact h1 _ N.md_
  have hdst : ∀ d, od = some d → oi.dst ≠ some d := fun d hd => by
    rcases hod with rfl | rfl
    · cases hd
    · injection hd with hd
      subst hd
      exact h2 _ N.md_
  have hend : ∀ (b : World) (v : Value), wpAnyQ P md ops (UpOf b) (fun a' => a' = F) f (V.setIfInBounds i true) (a.put oi.dst v) → ∀ e, oi.dst = some e → e < a.tmps.size → (a.put oi.dst v).tmps[e]? = F.tmps[e]? := fun b v h e he _ => by
    refine wpAnyQ_end f _ _ (fun j oj hj hl => ?_) h
    by_cases hij : i = j
    · subst hij
      have hlt : i < V.size := by rw [hVs]; exact (Array.getElem?_eq_some_iff.1 hoi).1
      simp [hlt] at hl
    · exact dstOnce_spec N.once hoi hj hij he
  obtain ⟨v, hy, hW⟩ := yieldsIn_of_qOp hoi ((hR w' hB).2 i hi)
  have hy' : YieldsIn P ops (UpOf w') oi v (a.put od pv) := hy.of_same (execOp_put oi (fun cs b => Region.noSelect_spec hsel i oi cs b hoi) a od pv hlook) (wanted_put oi a od pv hlook)
  have hall : Rest P md ops F w f (V.setIfInBounds i true) (a.put oi.dst v) := fun b hb => by
    obtain ⟨v', _, hW'⟩ := yieldsIn_of_qOp hoi ((hR b hb).2 i hi)
    exact wpAnyQ_put (hend w' v hW) (hend b v' hW') hW'
  have hq := hy'.qOp hoi (K := fun a'' => a'' = (a.put oi.dst v).put od pv) (Act.put_comm a pv v hdst)
  refine wpOp_of_qOp (C := UpOf w') (UpOf.refl w') (fun a'' w'' hw'' ha'' => ?_) hq
  rw [ha'']
  exact hK _ _ hw''.below (put_size _ _ _) hall

def Made (w : World) (T : TypeId) (cs : Array Value) (b : Nat) (w' : World) : Prop := w.heap.size ≤ b ∧ Blok w' b T cs ∧ Below w.heap.size w w'
theorem Made.below {w w' w'' : World} {cs : Array Value} {b : Nat} (h : Made w T cs b w') (hb : Below w'.heap.size w' w'') : Made w T cs b w'' :=
  ⟨h.1, h.2.1.below hb h.2.1.lt, h.2.2.trans (hb.mono h.2.2.size)⟩
theorem ready_of {listed : Array Bool} {V : Array Bool} (hV : ∀ j, listed.getD j true = true → V.getD j true = true) (hne : ∀ j, listed.getD j false = true → V.getD j false = true) {i : Nat} (hi : i ∈ Region.ready md ops listed) (hu : V.getD i true = false) : i ∈ Region.ready md ops V := by
  obtain ⟨_, o, ho, hall⟩ := mem_ready.1 hi
  exact mem_ready.2 ⟨hu, o, ho, fun e he hb => hne _ (hall e he hb)⟩

/-- The variable is made and filled: all the others. -/
theorem nv_done (N : NewVar md ops m s om os dm dv T) {cs : Array Value} {b : Nat} {Q' : Exit → Act → World → Prop} (hQ : ∀ w', Made w T cs b w' → Q' .normal (F.put (some dm) (.pointer (some ⟨b, 0, none⟩))) w') :
    ∀ (f : Nat) (V : Array Bool) (a : Act) (w' : World), V.size = ops.size → V.getD m true = true → V.getD s true = true → Made w T cs b w' → Rest P md ops F w f V a → wpAny P md ops Q' f V (a.put (some dm) (.pointer (some ⟨b, 0, none⟩))) w'
  | 0, V, a, w', _, _, _, hM, hR => by
    have h := hR w' hM.2.2
    exact ⟨h.1, by rw [show a = F from h.2]; exact hQ w' hM⟩
  | f + 1, V, a, w', hsz, hvm, hvs, hM, hR => by
    refine ⟨fun h0 => by rw [show a = F from (hR w' hM.2.2).1 h0]; exact hQ w' hM, fun i hi => ?_⟩
    have hun := (mem_ready.1 hi).1
    refine rest_step N (.inr rfl) hM.2.2 hR hi (fun e => by rw [e, hvm] at hun; cases hun) (fun e => by rw [e, hvs] at hun; cases hun) hsz fun a1 w'' hb _ hR1 => ?_
    exact nv_done N hQ f _ a1 w'' (by simp [hsz]) (by
      by_cases e : i = m
      · subst e; rw [hvm] at hun; cases hun
      · rw [getD_set_ne true e]; exact hvm) (by
      by_cases e : i = s
      · subst e; rw [hvs] at hun; cases hun
      · rw [getD_set_ne true e]; exact hvs) (hM.below hb) hR1
theorem set_below {w w' : World} (b : Nat) (hb : w.heap.size ≤ b) : ∀ (vs : List Value) (o : Nat), Below w.heap.size w w' → Below w.heap.size w (w'.setCells b o vs)
  | [], _, h => h
  | v :: r, o, h => by
    rw [World.setCells]
    exact set_below b hb r (o + 1) (h.setCell (p := ⟨b, o, none⟩) hb v)
theorem set_blok {b : Nat} : ∀ (vs : List Value) (o : Nat) (w' : World) (cs : Array Value), Blok w' b T cs → o + vs.length = cs.size → ∃ cs', Blok (w'.setCells b o vs) b T cs' ∧ cs'.size = cs.size ∧ (∀ j, j < o → cs'[j]? = cs[j]?) ∧ ∀ j, j < vs.length → cs'[o + j]? = vs[j]?
  | [], o, w', cs, h, _ => ⟨cs, h, rfl, fun _ _ => rfl, fun j hj => by simp at hj⟩
  | v :: r, o, w', cs, h, hl => by
    rw [World.setCells]
    simp only [List.length_cons] at hl
    obtain ⟨cs', h1, h2, h3, h4⟩ := set_blok r (o + 1) (w'.setCell ⟨b, o, none⟩ v) (cs.setIfInBounds o v) (h.set_ o v) (by simp; omega)
    refine ⟨cs', h1, by simpa using h2, fun j hj => ?_, fun j hj => ?_⟩
    · rw [h3 j (by omega), Array.getElem?_setIfInBounds_ne (by omega)]
    · cases j with
      | zero =>
        rw [Nat.add_zero, h3 o (by omega), Array.getElem?_setIfInBounds_self_of_lt (by omega)]
        rfl
      | succ j =>
        simp only [List.length_cons] at hj
        have := h4 j (by omega)
        rw [show o + (j + 1) = o + 1 + j by omega, this]
        rfl
theorem set_whole {b : Nat} {w' : World} {zs cs : Array Value} (h : Blok w' b T zs) (hz : cs.size = zs.size) : Blok (w'.setCells b 0 cs.toList) b T cs := by
  obtain ⟨cs', h1, h2, _, h4⟩ := set_blok cs.toList 0 w' zs h (by simpa using hz)
  have e : cs' = cs := by
    apply Array.ext_getElem?
    intro j
    by_cases hj : j < cs.size
    · have := h4 j (by simpa using hj)
      rw [Nat.zero_add] at this
      rw [this]
      simp
    · rw [Array.getElem?_eq_none (by omega), Array.getElem?_eq_none (by omega)]
  rwa [e] at h1
theorem setD_same {R : Array Bool} {i : Nat} (h : i < R.size) : (R.setIfInBounds i true).getD i true = true := by simp [h]
theorem wanted_plain {o : Oper} {a : Act} (h : o.guard = none) : Region.wanted o (yielded ops a.tmps) = true := by unfold Region.wanted; rw [h]
/-- One step, the variable made and not filled. -/
theorem nv_made_step (N : NewVar md ops m s om os dm dv T) {zs cs : Array Value} {b : Nat} {Q' : Exit → Act → World → Prop} (hz : cs.size = zs.size) (hi : (P.info? T).map (·.size) = some cs.size) (h1 : cs.all (·.oneCell') = true) (hF : F.tmps[dv]? = some (.agg cs)) (hdm : dm < F.tmps.size)
    (hQ : ∀ w', Made w T cs b w' → Q' .normal (F.put (some dm) (.pointer (some ⟨b, 0, none⟩))) w') (f : Nat)
    (ih : ∀ g, g + 1 = f → ∀ (R : Array Bool) (a : Act) (w' : World), R.size = ops.size → R.getD m true = true → R.getD s true = false → a.tmps.size = F.tmps.size → Made w T zs b w' → Rest P md ops F w g (R.setIfInBounds s true) a → wpAny P md ops Q' (g + 1) R (a.put (some dm) (.pointer (some ⟨b, 0, none⟩))) w')
    (R : Array Bool) (a : Act) (w' : World) (hsz : R.size = ops.size) (hrm : R.getD m true = true) (hrs : R.getD s true = false) (has : a.tmps.size = F.tmps.size) (hM : Made w T zs b w') (hR : Rest P md ops F w f (R.setIfInBounds s true) a) : wpAny P md ops Q' (f + 1) R (a.put (some dm) (.pointer (some ⟨b, 0, none⟩))) w' := by
  have hsl : s < ops.size := (Array.getElem?_eq_some_iff.1 N.hs).1
  have hml : m < ops.size := (Array.getElem?_eq_some_iff.1 N.hm).1
  refine ⟨fun h0 => absurd (all_listed N.lex h0 hsz s hsl) (by rw [hrs]; simp), fun i hir => ?_⟩
  have hun := (mem_ready.1 hir).1
  have him : i ≠ m := fun e => by rw [e, hrm] at hun; cases hun
  by_cases his : i = s
  · subst his
    have hdv : a.tmps[dv]? = some (.agg cs) := by
      rw [← hF]
      refine wpAnyQ_end f _ _ (fun j oj hj hl hd => ?_) (hR w' hM.2.2)
      have hji : i ≠ j := fun e => by
        subst e
        rw [setD_same (by omega)] at hl
        cases hl
      rw [getD_set_ne true hji] at hl
      obtain ⟨o', ho', e, he, hb, hon⟩ := Region.waitsFor_spec (N.value j oj hj hd)
      obtain ⟨_, o2, ho2, hall⟩ := mem_ready.1 hir
      obtain rfl : o2 = o' := Option.some.inj (ho2.symm.trans ho')
      have := hall e he hb
      rw [hon, getD_both hl] at this
      cases this
    unfold wpOp
    simp only [N.hs]
    rw [if_pos (wanted_plain N.sg)]
    refine .inl (wp_store_mid T (.tmp dm) (.tmp dv) N.store b 0 cs ?_ ?_ ?_ hi h1 ?_)
    · simp [Act.eval, Act.put, has, hdm]
    · rw [Act.eval_put (fun d hd => by injection hd with hd; subst hd; exact fun e => N.ne (by injection e with e; exact e.symm))]
      simp [Act.eval, hdv]
    · intro j hj
      rw [Nat.zero_add]
      refine ⟨?_, hM.2.1.free j⟩
      rw [hM.2.1.cell j]
      have : j < zs.size := by omega
      simp [this]
    · rw [N.sd]
      refine nv_done N hQ f _ a _ (by simp [hsz]) (by rw [getD_set_ne true him]; exact hrm) (setD_same (by omega)) ⟨hM.1, set_whole hM.2.1 hz, set_below b hM.1 _ _ hM.2.2⟩ hR
  · have hiV : i ∈ Region.ready md ops (R.setIfInBounds s true) := ready_mono hir his
    cases f with
    | zero =>
      have := (hR w' hM.2.2).1
      rw [this] at hiV
      cases hiV
    | succ g =>
      refine rest_step N (.inr rfl) hM.2.2 hR hiV him his (by simp [hsz]) fun a1 w'' hb ha1 hR1 => ?_
      rw [Array.setIfInBounds_comm _ _ (Ne.symm his)] at hR1
      exact ih g rfl _ a1 w'' (by simp [hsz]) (by rw [getD_set_ne true him]; exact hrm) (by rw [getD_set_ne true his]; exact hrs) (by rw [ha1, has]) (hM.below hb) hR1
/-- The variable is made, not filled. -/
theorem nv_made (N : NewVar md ops m s om os dm dv T) {zs cs : Array Value} {b : Nat} {Q' : Exit → Act → World → Prop} (hz : cs.size = zs.size) (hi : (P.info? T).map (·.size) = some cs.size) (h1 : cs.all (·.oneCell') = true) (hF : F.tmps[dv]? = some (.agg cs)) (hdm : dm < F.tmps.size)
    (hQ : ∀ w', Made w T cs b w' → Q' .normal (F.put (some dm) (.pointer (some ⟨b, 0, none⟩))) w') :
    ∀ (f : Nat) (R : Array Bool) (a : Act) (w' : World), R.size = ops.size → R.getD m true = true → R.getD s true = false → a.tmps.size = F.tmps.size → Made w T zs b w' → Rest P md ops F w f (R.setIfInBounds s true) a → wpAny P md ops Q' (f + 1) R (a.put (some dm) (.pointer (some ⟨b, 0, none⟩))) w' := by
  intro f
  induction f with
  | zero =>
    intro R a w' hsz hrm hrs has hM hR
    exact nv_made_step N hz hi h1 hF hdm hQ 0 (fun g hg => by omega) R a w' hsz hrm hrs has hM hR
  | succ f ih =>
    intro R a w' hsz hrm hrs has hM hR
    exact nv_made_step N hz hi h1 hF hdm hQ (f + 1) (fun g hg => by cases hg; exact ih) R a w' hsz hrm hrs has hM hR
/-- One step, nothing made. -/
theorem nv_open_step (N : NewVar md ops m s om os dm dv T) {zs cs : Array Value} {Q' : Exit → Act → World → Prop} (hal : ∀ (a : Act) (w : World), (execOp a.eval om).run P w = .ok (.value (.pointer (some ⟨w.heap.size, 0, none⟩))) (w.alloc (.cells zs T)))
    (hz : cs.size = zs.size) (hi : (P.info? T).map (·.size) = some cs.size) (h1 : cs.all (·.oneCell') = true) (hF : F.tmps[dv]? = some (.agg cs)) (hdm : dm < F.tmps.size)
    (hQ : ∀ b w', Made w T cs b w' → Q' .normal (F.put (some dm) (.pointer (some ⟨b, 0, none⟩))) w') (f : Nat)
    (ih : ∀ g, g + 1 = f → ∀ (R : Array Bool) (a : Act) (w' : World), R.size = ops.size → R.getD m true = false → R.getD s true = false → a.tmps.size = F.tmps.size → Below w.heap.size w w' → Rest P md ops F w g ((R.setIfInBounds m true).setIfInBounds s true) a → wpAny P md ops Q' (g + 2) R a w')
    (R : Array Bool) (a : Act) (w' : World) (hsz : R.size = ops.size) (hrm : R.getD m true = false) (hrs : R.getD s true = false) (has : a.tmps.size = F.tmps.size) (hB : Below w.heap.size w w') (hR : Rest P md ops F w f ((R.setIfInBounds m true).setIfInBounds s true) a) : wpAny P md ops Q' (f + 2) R a w' := by
  have hsl : s < ops.size := (Array.getElem?_eq_some_iff.1 N.hs).1
  have hml : m < ops.size := (Array.getElem?_eq_some_iff.1 N.hm).1
  refine ⟨fun h0 => absurd (all_listed N.lex h0 hsz s hsl) (by rw [hrs]; simp), fun i hir => ?_⟩
  have hun := (mem_ready.1 hir).1
  have his : i ≠ s := fun e => by
    subst e
    obtain ⟨o', ho', e, he, hb, hon⟩ := Region.waitsFor_spec N.waits
    obtain ⟨_, o2, ho2, hall⟩ := mem_ready.1 hir
    obtain rfl : o2 = o' := Option.some.inj (ho2.symm.trans ho')
    have := hall e he hb
    rw [hon, getD_both hrm] at this
    cases this
  by_cases him : i = m
  · subst him
    unfold wpOp
    simp only [N.hm]
    rw [if_pos (wanted_plain N.mg)]
    refine .inl ?_
    unfold Oper.wp
    rw [hal, Oper.upon_value, N.md_]
    refine nv_made N hz hi h1 hF hdm (fun w2 h2 => hQ _ w2 h2) f _ a _ (by simp [hsz]) (setD_same (by omega)) (by rw [getD_set_ne true his]; exact hrs) has ⟨hB.size, Blok.new _ _ _, hB.alloc hB.size _⟩ hR
  · have hiV : i ∈ Region.ready md ops ((R.setIfInBounds m true).setIfInBounds s true) := ready_mono (ready_mono hir him) his
    cases f with
    | zero =>
      have := (hR w' hB).1
      rw [this] at hiV
      cases hiV
    | succ g =>
      refine rest_step N (od := none) (pv := undef) (.inl rfl) hB hR hiV him his (by simp [hsz]) fun a1 w'' hb ha1 hR1 => ?_
      rw [Array.setIfInBounds_comm _ _ (Ne.symm his), Array.setIfInBounds_comm _ _ (Ne.symm him)] at hR1
      exact ih g rfl _ a1 w'' (by simp [hsz]) (by rw [getD_set_ne true him]; exact hrm) (by rw [getD_set_ne true his]; exact hrs) (by rw [ha1, has]) (hB.trans (hb.mono hB.size)) hR1
/-- Nothing is made yet. -/
theorem nv_open (N : NewVar md ops m s om os dm dv T) {zs cs : Array Value} {Q' : Exit → Act → World → Prop} (hal : ∀ (a : Act) (w : World), (execOp a.eval om).run P w = .ok (.value (.pointer (some ⟨w.heap.size, 0, none⟩))) (w.alloc (.cells zs T)))
    (hz : cs.size = zs.size) (hi : (P.info? T).map (·.size) = some cs.size) (h1 : cs.all (·.oneCell') = true) (hF : F.tmps[dv]? = some (.agg cs)) (hdm : dm < F.tmps.size)
    (hQ : ∀ b w', Made w T cs b w' → Q' .normal (F.put (some dm) (.pointer (some ⟨b, 0, none⟩))) w') :
    ∀ (f : Nat) (R : Array Bool) (a : Act) (w' : World), R.size = ops.size → R.getD m true = false → R.getD s true = false → a.tmps.size = F.tmps.size → Below w.heap.size w w' → Rest P md ops F w f ((R.setIfInBounds m true).setIfInBounds s true) a → wpAny P md ops Q' (f + 2) R a w' := by
  intro f
  induction f with
  | zero =>
    intro R a w' hsz hrm hrs has hM hR
    exact nv_open_step N hal hz hi h1 hF hdm hQ 0 (fun g hg => by omega) R a w' hsz hrm hrs has hM hR
  | succ f ih =>
    intro R a w' hsz hrm hrs has hM hR
    exact nv_open_step N hal hz hi h1 hF hdm hQ (f + 1) (fun g hg => by cases hg; exact ih) R a w' hsz hrm hrs has hM hR
theorem cell_up {w b : World} {a : Addr} {v : Value} (h : w.cell? a = some v) (hb : Below w.heap.size w b) (d : Nat) (os : Array Obj) : (grow (redrawn b d) os).cell? a = some v :=
  cell_regrown ((hb.cell (block_lt_of_cell h)).trans h) d os
theorem up_below {w b : World} (hb : Below w.heap.size w b) (d : Nat) (os : Array Obj) : Below w.heap.size w (grow (redrawn b d) os) := hb.trans ((below_regrown b d os).mono hb.size)
theorem wp_region_newvar {id : Nat} {Q' : Exit → Act → World → Prop} {a : Act} {l : List Oper} (ks : List Nat) (hmo : P.follows .mixedOrders = true) (N : NewVar .any l.toArray m s om os dm dv T) (hks : lexIdx .any l.toArray ks (((Array.replicate l.length false).setIfInBounds m true).setIfInBounds s true) = true) (hlen : ks.length + 2 = l.length)
    {zs cs : Array Value} (hal : ∀ (a : Act) (w : World), (execOp a.eval om).run P w = .ok (.value (.pointer (some ⟨w.heap.size, 0, none⟩))) (w.alloc (.cells zs T)))
    (hz : cs.size = zs.size) (hi : (P.info? T).map (·.size) = some cs.size) (h1 : cs.all (·.oneCell') = true)
    (h : ∃ F : Act, (∀ b, Below w.heap.size w b → wpQuiet P l.toArray (fun w' => ∃ p : Regrown, w' = grow (redrawn b p.d) p.os) (fun a' => a' = F) (pickL ks l) a) ∧ F.tmps[dv]? = some (.agg cs) ∧ dm < F.tmps.size ∧ a.tmps.size = F.tmps.size ∧
      ∀ b w', Made w T cs b w' → Q' .normal (F.put (some dm) (.pointer (some ⟨b, 0, none⟩))) w') : (Code.region id l.toArray true).wp P Q' a w := by
  obtain ⟨F, hq, hF, hdm, hsz, hQ⟩ := h
  refine wp_region_any hmo ?_
  have hR : Rest P .any l.toArray F w ks.length (((Array.replicate l.length false).setIfInBounds m true).setIfInBounds s true) a := fun b hb => wpAnyQ_idx N.sel ks _ a hks (hq b hb)
  have hml : m < l.length := by simpa using (Array.getElem?_eq_some_iff.1 N.hm).1
  have hsl : s < l.length := by simpa using (Array.getElem?_eq_some_iff.1 N.hs).1
  have := nv_open (md := .any) N hal hz hi h1 hF hdm hQ ks.length (Array.replicate l.length false) a w.drew (by simp) (by simp [hml]) (by simp [hsl]) hsz ((Below.refl _ _).drew) hR
  rw [hlen] at this
  simpa using this
end
end Go.Proofs.Ytfdphpmcgidmiaa

/- Contracts of plan.Right and of Few. They make new memory alone. -/
namespace Go.Proofs.Ytfdphpmcgidmiaa
open Go.ChangeShapes Go.WideShapes Go.ChangeAt Go.RowKit Go.Sort
set_option linter.unusedSimpArgs false
set_option linter.unusedVariables false
def aheadC (cs : List Co) (clk : Int) : Bool := !cs.any fun x => decide (x.en ≤ clk)
def aheadR (rs : List Rg) (clk : Int) : Bool := !rs.any fun x => decide (x.en ≤ clk)
def rightP (cs : List Co) (rs : List Rg) (clk ver : Int) : Bool :=
  Kc.rightC cs && (Kr.rightB rs && (inB clk 0 2147483647 && (inB ver 0 1099511627776 && (aheadC cs clk && aheadR rs clk))))
structure RightP (cs : List Co) (rs : List Rg) (clk ver : Int) : Prop where
  co : Kc.rightC cs = true
  rg : Kr.rightB rs = true
  c0 : 0 ≤ clk
  c1 : clk ≤ 2147483647
  v0 : 0 ≤ ver
  v1 : ver ≤ 1099511627776
  ec : ∀ x ∈ cs, clk < x.en
  er : ∀ x ∈ rs, clk < x.en
theorem rightP_spec {cs : List Co} {rs : List Rg} {clk ver : Int} : rightP cs rs clk ver = true ↔ RightP cs rs clk ver := by
  unfold rightP aheadC aheadR inB
  constructor
  · intro h
    simp only [Bool.and_eq_true, decide_eq_true_eq, Bool.not_eq_true', List.any_eq_false, Int.not_le] at h
    obtain ⟨h1, h2, h3, h4, h5, h6⟩ := h
    exact ⟨h1, h2, h3.1, h3.2, h4.1, h4.2, h5, h6⟩
  · intro h
    simp only [Bool.and_eq_true, decide_eq_true_eq, Bool.not_eq_true', List.any_eq_false, Int.not_le]
    exact ⟨h.co, h.rg, ⟨h.c0, h.c1⟩, ⟨h.v0, h.v1⟩, h.ec, h.er⟩
set_option maxRecDepth 100000 in
theorem pright1_any (x : Co) (clk : Int) (g : Nat) (t : TypeId) (v0 v1 v3 : Value) (w : World) (hR : Blok w g t #[v0, v1, .int .i64 clk, v3]) : Calls Try.prog 50 #[.agg #[.int .i64 x.id, .int .i64 x.fr, .int .i64 x.tn, .int .i64 x.st, .int .i64 x.en, .int .i64 x.rt], .pointer (some ⟨g, 0, none⟩)] w fun e w' => e = .returned (.bool (decide (x.en ≤ clk))) ∧ Below w.heap.size w w' := by
  have r2 : w.cell? ⟨g, 2, none⟩ = some (.int .i64 clk) := hR.cell 2
  have hl := hR.lt
  clear hR
  go_enter Try.func50, Try.ntmps50
  go_wp2
  all_goals go_ret
  all_goals exact ⟨rfl, by (repeat (first | exact Below.refl _ _ | refine Below.alloc ?_ (by first | omega | (simp; done) | (simp; omega)) _ | refine Below.setCell ?_ (by first | omega | (simp; done) | (simp; omega)) _ | refine Below.drew ?_))⟩
set_option maxRecDepth 100000 in
theorem pright2_any (x : Rg) (clk : Int) (g : Nat) (t : TypeId) (v0 v1 v3 : Value) (w : World) (hR : Blok w g t #[v0, v1, .int .i64 clk, v3]) : Calls Try.prog 52 #[.agg #[.int .i64 x.fr, .int .i64 x.tn, .int .i64 x.st, .int .i64 x.en, .int .i64 x.ow], .pointer (some ⟨g, 0, none⟩)] w fun e w' => e = .returned (.bool (decide (x.en ≤ clk))) ∧ Below w.heap.size w w' := by
  have r2 : w.cell? ⟨g, 2, none⟩ = some (.int .i64 clk) := hR.cell 2
  have hl := hR.lt
  clear hR
  go_enter Try.func52, Try.ntmps52
  go_wp2
  all_goals go_ret
  all_goals exact ⟨rfl, by (repeat (first | exact Below.refl _ _ | refine Below.alloc ?_ (by first | omega | (simp; done) | (simp; omega)) _ | refine Below.setCell ?_ (by first | omega | (simp; done) | (simp; omega)) _ | refine Below.drew ?_))⟩
theorem pred_pr1 (clk : Int) (g : Nat) (t : TypeId) (v0 v1 v3 : Value) (w : World) (hR : Blok w g t #[v0, v1, .int .i64 clk, v3]) : PredCo 50 #[.pointer (some ⟨g, 0, none⟩)] none w (fun x => decide (x.en ≤ clk)) :=
  ⟨enter_run Try.func50 rfl rfl, fun w' hg x => pright1_any x clk g t v0 v1 v3 w' (hR.grown hg (fun e => by cases e))⟩
theorem pred_pr2 (clk : Int) (g : Nat) (t : TypeId) (v0 v1 v3 : Value) (w : World) (hR : Blok w g t #[v0, v1, .int .i64 clk, v3]) : PredRg 52 #[.pointer (some ⟨g, 0, none⟩)] none w (fun x => decide (x.en ≤ clk)) :=
  ⟨enter_run Try.func52 rfl rfl, fun w' hg x => pright2_any x clk g t v0 v1 v3 w' (hR.grown hg (fun e => by cases e))⟩
set_option maxHeartbeats 4000000 in
set_option maxRecDepth 100000 in
theorem pright_any (A1 : Option Addr) (n1 c1 : Nat) (cs : List Co) (A : Option Addr) (n c : Nat) (rs : List Rg) (clk ver : Int) (w : World) (hd1 : cs.length = n1) (hn1 : n1 ≤ 1000000) (hd : rs.length = n) (hn : n ≤ 1000000) (h1 : Sl w w.heap.size 6 A1 n1 c1 (flatCo cs)) (h : Sl w w.heap.size 5 A n c (flatRg rs)) (b : Bool) (hb : rightP cs rs clk ver = b) :
    Calls Try.prog 24 #[.agg #[.slice A1 n1 c1, .slice A n c, .int .i64 clk, .int .i64 ver]] w fun e w' => e = .returned (.bool b) ∧ Below w.heap.size w w' := by
  have hB : Below w.heap.size w (w.alloc (.cells #[.slice A1 n1 c1, .slice A n c, .int .i64 clk, .int .i64 ver] 25)) := by (repeat (first | exact Below.refl _ _ | refine Below.alloc ?_ (by first | omega | (simp; done) | (simp; omega)) _ | refine Below.setCell ?_ (by first | omega | (simp; done) | (simp; omega)) _ | refine Below.drew ?_))
  have hP := Blok.new w 25 #[.slice A1 n1 c1, .slice A n c, .int .i64 clk, .int .i64 ver]
  replace h1 := h1.up hB
  replace h := h.up hB
  have hs := hB.size
  have HB := Lib.hid hb
  have HD1 := Lib.hid hd1
  have HD := Lib.hid hd
  clear hb hd hd1
  obtain ⟨b1, q1⟩ : ∃ q, Kc.rightC cs = q := ⟨_, rfl⟩
  obtain ⟨b2, q2⟩ : ∃ q, Kr.rightB rs = q := ⟨_, rfl⟩
  obtain ⟨b3, q3⟩ : ∃ q, inB clk 0 2147483647 = q := ⟨_, rfl⟩
  obtain ⟨b4, q4⟩ : ∃ q, inB ver 0 1099511627776 = q := ⟨_, rfl⟩
  obtain ⟨b5, q5⟩ : ∃ q, (cs.any fun x => decide (x.en ≤ clk)) = q := ⟨_, rfl⟩
  obtain ⟨b6, q6⟩ : ∃ q, (rs.any fun x => decide (x.en ≤ clk)) = q := ⟨_, rfl⟩
  have hbb : b = (b1 && (b2 && (b3 && (b4 && (!b5 && !b6))))) := by rw [← HB.out]; unfold rightP aheadC aheadR; rw [q1, q2, q3, q4, q5, q6]
  have Q1 := Lib.hid q1
  have Q2 := Lib.hid q2
  have Q3 := Lib.hid q3
  have Q4 := Lib.hid q4
  have Q5 := Lib.hid q5
  have Q6 := Lib.hid q6
  have HBB := Lib.hid hbb
  clear q1 q2 q3 q4 q5 q6 hbb HB
  go_enter Try.func24, Try.ntmps24
  go_wp2_with fail
  generalize w.alloc (.cells #[.slice A1 n1 c1, .slice A n c, .int .i64 clk, .int .i64 ver] 25) = w0 at *
  refine (Kc.right_any A1 n1 c1 cs w0 HD1.out hn1 h1).mono ?_
  rintro e w1 ⟨rfl, hb⟩
  rw [Q1.out]
  replace h1 := h1.up hb
  replace h := h.up hb
  replace hP := hP.below hb hP.lt
  replace hB := hB.trans (hb.mono hs)
  replace hs := hB.size
  clear hb
  cases b1
  · go_wp2_with fail
    go_ret
    exact ⟨by rw [HBB.out]; rfl, hB⟩
  have r1 : w1.cell? ⟨w.heap.size, 1, none⟩ = some (.slice A n c) := hP.cell 1
  have lt_p := hP.lt
  go_wp2_with fail
  clear r1 lt_p
  refine (Kr.right_any A n c rs w1 HD.out hn h).mono ?_
  rintro e w2 ⟨rfl, hb⟩
  rw [Q2.out]
  replace h1 := h1.up hb
  replace h := h.up hb
  replace hP := hP.below hb hP.lt
  replace hB := hB.trans (hb.mono hs)
  replace hs := hB.size
  clear hb
  cases b2
  · go_wp2_with fail
    go_ret
    exact ⟨by rw [HBB.out]; rfl, hB⟩
  have r2 : w2.cell? ⟨w.heap.size, 2, none⟩ = some (.int .i64 clk) := hP.cell 2
  have r3 : w2.cell? ⟨w.heap.size, 3, none⟩ = some (.int .i64 ver) := hP.cell 3
  have lt_p := hP.lt
  go_wp2_with fail
  refine (in_any clk 0 2147483647 w2).mono ?_
  rintro e w3 ⟨rfl, rfl⟩
  rw [Q3.out]
  cases b3
  · go_wp2_with fail
    go_ret
    exact ⟨by rw [HBB.out]; rfl, hB⟩
  go_wp2_with fail
  refine (in_any ver 0 1099511627776 w2).mono ?_
  rintro e w3 ⟨rfl, rfl⟩
  rw [Q4.out]
  cases b4
  · go_wp2_with fail
    go_ret
    exact ⟨by rw [HBB.out]; rfl, hB⟩
  have r0 : w2.cell? ⟨w.heap.size, 0, none⟩ = some (.slice A1 n1 c1) := hP.cell 0
  go_wp2_with fail
  clear r0 r2 r3 lt_p
  refine (containsCo A1 n1 c1 cs _ _ none _ w2 HD1.out hn1 h1 (pred_pr1 clk _ _ _ _ _ w2 hP)).mono ?_
  rintro e w3 ⟨rfl, hb⟩
  rw [Q5.out]
  replace h1 := h1.up hb
  replace h := h.up hb
  replace hP := hP.below hb hP.lt
  replace hB := hB.trans (hb.mono hs)
  replace hs := hB.size
  clear hb
  cases b5
  case true =>
    go_wp2_with fail
    go_ret
    exact ⟨by rw [HBB.out]; rfl, hB⟩
  have r1 : w3.cell? ⟨w.heap.size, 1, none⟩ = some (.slice A n c) := hP.cell 1
  have lt_p := hP.lt
  go_wp2_with fail
  clear r1 lt_p
  refine (containsRg A n c rs _ _ none _ w3 HD.out hn h (pred_pr2 clk _ _ _ _ _ w3 hP)).mono ?_
  rintro e w4 ⟨rfl, hb⟩
  rw [Q6.out]
  replace hB := hB.trans (hb.mono hs)
  clear hb
  cases b6
  all_goals
    go_wp2_with fail
    go_ret
    exact ⟨by rw [HBB.out]; rfl, hB⟩
set_option maxHeartbeats 1000000 in
set_option maxRecDepth 100000 in
theorem few_any (A1 : Option Addr) (n1 c1 : Nat) (A : Option Addr) (n c : Nat) (clk ver : Int) (w : World) (b : Bool) (hb : decide (n1 ≤ 50 ∧ n ≤ 50) = b) :
    Calls Try.prog 9 #[.agg #[.slice A1 n1 c1, .slice A n c, .int .i64 clk, .int .i64 ver]] w fun e w' => e = .returned (.bool b) ∧ Below w.heap.size w w' := by
  have hB : Below w.heap.size w (w.alloc (.cells #[.slice A1 n1 c1, .slice A n c, .int .i64 clk, .int .i64 ver] 25)) := by (repeat (first | exact Below.refl _ _ | refine Below.alloc ?_ (by first | omega | (simp; done) | (simp; omega)) _ | refine Below.setCell ?_ (by first | omega | (simp; done) | (simp; omega)) _ | refine Below.drew ?_))
  by_cases h1 : n1 ≤ 50
  · by_cases h2 : n ≤ 50
    all_goals
      obtain rfl : b = decide (n ≤ 50) := by rw [← hb]; simp [h1]
      clear hb
      have g1 : decide ((n1 : Int) ≤ 50) = true := decide_eq_true (by omega)
      first | have g2 : decide ((n : Int) ≤ 50) = true := decide_eq_true (by omega) | have g2 : decide ((n : Int) ≤ 50) = false := decide_eq_false (by omega)
      go_enter Try.func9, Try.ntmps9
      go_wp2_with fail
      go_ret
      exact ⟨by simp [h2], hB⟩
  · obtain rfl : b = false := by rw [← hb]; simp [h1]
    clear hb
    have g1 : decide ((n1 : Int) ≤ 50) = false := decide_eq_false (by omega)
    go_enter Try.func9, Try.ntmps9
    go_wp2_with fail
    go_ret
    exact ⟨rfl, hB⟩
end Go.Proofs.Ytfdphpmcgidmiaa

/- Contract of view.Edge: a contact as a bundle of a class sees it. It makes new memory alone. -/
namespace Go.Proofs.Ytfdphpmcgidmiaa
open Go.ChangeShapes Go.WideShapes Go.ChangeAt Go.RowKit Go.Sort
set_option linter.unusedSimpArgs false
set_option linter.unusedVariables false
def owltF (d : List Rg) (cf ct cs ce : Int) : Option Int := (d.find? (Kr.covR cf ct cs ce)).map Rg.ow
theorem owltF_of {d : List Rg} (h : Kr.SortR d) {cf ct cs ce o : Int} {b : Bool} (hc : cs < ce) (ht : Kr.Tells d cf ct cs ce o b) : owltF d cf ct cs ce = if b = true then some o else none := by
  unfold owltF
  rcases ht with ⟨rfl, x, hx, hcx, rfl⟩ | ⟨rfl, rfl, hn⟩
  · cases hf : d.find? (Kr.covR cf ct cs ce) with
    | none =>
      rw [List.find?_eq_none] at hf
      exact absurd hcx (hf x hx)
    | some y =>
      have hy := List.mem_of_find?_eq_some hf
      have hcy := List.find?_some hf
      obtain ⟨i, hi, e1⟩ := List.getElem_of_mem hx
      obtain ⟨j, hj, e2⟩ := List.getElem_of_mem hy
      have h1 : gRg d i = x := by rw [gRg_eq hi, e1]
      have h2 : gRg d j = y := by rw [gRg_eq hj, e2]
      have := Kr.cov_one h hc hi hj (by rw [h1]; exact hcx) (by rw [h2]; exact hcy)
      subst this
      rw [← h1, ← h2]; simp
  · rw [List.find?_eq_none.2 (fun x hx => by rw [hn x hx]; decide)]; simp
def ctOf (c : Co) : Kb.Ct := ⟨c.id, c.fr, c.tn, c.st, c.en, c.rt⟩
/-- The edge of c, if it may be and has a range. -/
def edgeF (rs : List Rg) (bk : List Bk) (c : Co) (cl : Int) : Option Ed :=
  if Kc.okC c = true then (owltF rs c.fr c.tn c.st c.en).map fun o => ⟨c.id, c.fr, c.tn, min (c.st + cdiv (Kb.backF (Kb.rowB bk c.id) cl) c.rt) 1099511627776, c.en, c.rt, o, Kb.roomF (ctOf c) (Kb.rowB bk c.id) cl⟩ else none
def zeroEd : Ed := ⟨0, 0, 0, 0, 0, 0, 0, 0⟩
theorem owlt_is (A : Option Addr) (n c : Nat) (d : List Rg) (x : Co) (w : World) (hd : d.length = n) (hn : n ≤ 1000000) (h : Sl w w.heap.size 5 A n c (flatRg d)) (hr : Kr.rightB d = true) (hx : x.st < x.en) (o : Option Int) (ho : owltF d x.fr x.tn x.st x.en = o) :
    Calls Try.prog 28 #[.slice A n c, .agg #[.int .i64 x.id, .int .i64 x.fr, .int .i64 x.tn, .int .i64 x.st, .int .i64 x.en, .int .i64 x.rt]] w fun e w' => ∃ v, e = .returned (.tuple #[.int .i64 v, .bool o.isSome]) ∧ (∀ u, o = some u → v = u) ∧ Below w.heap.size w w' := by
  refine (Kr.owlt_any A n c d x.id x.fr x.tn x.st x.en x.rt w hd hn h).mono ?_
  rintro e w' ⟨i, v, b, rfl, ha, hw, hb⟩
  have ht := Kr.tells_of (Kr.sort_of_right hr) hd hx ha hw
  have := owltF_of (Kr.sort_of_right hr) hx ht
  rw [ho] at this
  subst this
  refine ⟨v, ?_, ?_, hb⟩
  · cases b <;> rfl
  · intro u hu
    cases b
    · simp at hu
    · simpa using hu
set_option maxHeartbeats 8000000 in
set_option maxRecDepth 100000 in
theorem edge_any (A1 : Option Addr) (n1 c1 : Nat) (A : Option Addr) (n c : Nat) (rs : List Rg) (clk ver : Int) (A2 : Option Addr) (n2 c2 : Nat) (bk : List Bk) (x : Co) (cl : Int) (w : World) (hd : rs.length = n) (hn : n ≤ 1000000) (hd2 : bk.length = n2) (hn2 : n2 ≤ 1000000) (h : Sl w w.heap.size 5 A n c (flatRg rs)) (h2 : Sl w w.heap.size 4 A2 n2 c2 (flatBk bk)) (hr : Kr.rightB rs = true) (hr2 : Kb.rightB bk = true) (o : Option Ed) (ho : edgeF rs bk x cl = o) (y : Ed) (hy : o.getD zeroEd = y) :
    Calls Try.prog 12 #[.agg #[.slice A1 n1 c1, .slice A n c, .int .i64 clk, .int .i64 ver], .slice A2 n2 c2, .agg #[.int .i64 x.id, .int .i64 x.fr, .int .i64 x.tn, .int .i64 x.st, .int .i64 x.en, .int .i64 x.rt], .int .i64 cl] w fun e w' => e = .returned (.tuple #[.agg #[.int .i64 y.id, .int .i64 y.fr, .int .i64 y.tn, .int .i64 y.op, .int .i64 y.en, .int .i64 y.ra, .int .i64 y.ow, .int .i64 y.ro], .bool o.isSome]) ∧ Below w.heap.size w w' := by
  have hB : Below w.heap.size w (((w.alloc (.cells #[.slice A1 n1 c1, .slice A n c, .int .i64 clk, .int .i64 ver] 25)).alloc (.cells #[.int .i64 x.id, .int .i64 x.fr, .int .i64 x.tn, .int .i64 x.st, .int .i64 x.en, .int .i64 x.rt] 28)).alloc (.cells #[.int .i64 0, .int .i64 0, .int .i64 0, .int .i64 0, .int .i64 0, .int .i64 0, .int .i64 0, .int .i64 0] 34)) := by (repeat (first | exact Below.refl _ _ | refine Below.alloc ?_ (by first | omega | (simp; done) | (simp; omega)) _ | refine Below.setCell ?_ (by first | omega | (simp; done) | (simp; omega)) _ | refine Below.drew ?_))
  have hP := ((Blok.new w 25 #[.slice A1 n1 c1, .slice A n c, .int .i64 clk, .int .i64 ver]).alloc (.cells #[.int .i64 x.id, .int .i64 x.fr, .int .i64 x.tn, .int .i64 x.st, .int .i64 x.en, .int .i64 x.rt] 28)).alloc (.cells #[.int .i64 0, .int .i64 0, .int .i64 0, .int .i64 0, .int .i64 0, .int .i64 0, .int .i64 0, .int .i64 0] 34)
  have hC := (Blok.new (w.alloc (.cells #[.slice A1 n1 c1, .slice A n c, .int .i64 clk, .int .i64 ver] 25)) 28 #[.int .i64 x.id, .int .i64 x.fr, .int .i64 x.tn, .int .i64 x.st, .int .i64 x.en, .int .i64 x.rt]).alloc (.cells #[.int .i64 0, .int .i64 0, .int .i64 0, .int .i64 0, .int .i64 0, .int .i64 0, .int .i64 0, .int .i64 0] 34)
  have hZ := Blok.new ((w.alloc (.cells #[.slice A1 n1 c1, .slice A n c, .int .i64 clk, .int .i64 ver] 25)).alloc (.cells #[.int .i64 x.id, .int .i64 x.fr, .int .i64 x.tn, .int .i64 x.st, .int .i64 x.en, .int .i64 x.rt] 28)) 34 #[.int .i64 0, .int .i64 0, .int .i64 0, .int .i64 0, .int .i64 0, .int .i64 0, .int .i64 0, .int .i64 0]
  simp only [World.size_alloc] at hC hZ
  replace h := h.up hB
  replace h2 := h2.up hB
  have hs := hB.size
  obtain ⟨ok, hok⟩ : ∃ b, Kc.okC x = b := ⟨_, rfl⟩
  have HD := Lib.hid hd
  have HD2 := Lib.hid hd2
  have HR := Lib.hid hr
  have HR2 := Lib.hid hr2
  have HO := Lib.hid ho
  have HY := Lib.hid hy
  have HOK := Lib.hid hok
  clear hd hd2 hr hr2 ho hy hok
  go_enter Try.func12, Try.ntmps12
  go_wp2_with fail
  generalize ((w.alloc (.cells #[.slice A1 n1 c1, .slice A n c, .int .i64 clk, .int .i64 ver] 25)).alloc (.cells #[.int .i64 x.id, .int .i64 x.fr, .int .i64 x.tn, .int .i64 x.st, .int .i64 x.en, .int .i64 x.rt] 28)).alloc (.cells #[.int .i64 0, .int .i64 0, .int .i64 0, .int .i64 0, .int .i64 0, .int .i64 0, .int .i64 0, .int .i64 0] 34) = w0 at *
  refine (Kc.okC_call x w0 ok HOK.out).mono ?_
  rintro e w1 ⟨rfl, hb⟩
  replace h := h.up hb
  replace h2 := h2.up hb
  replace hP := hP.below hb hP.lt
  replace hC := hC.below hb hC.lt
  replace hZ := hZ.below hb hZ.lt
  replace hB := hB.trans (hb.mono hs)
  replace hs := hB.size
  clear hb
  cases ok
  · have hov : o = none := by rw [← HO.out]; unfold edgeF; rw [if_neg (by rw [HOK.out]; decide)]
    have hyv : y = zeroEd := by rw [← HY.out, hov]; rfl
    subst hyv
    have HOV := Lib.hid hov
    have r0 : w1.cell? ⟨w.heap.size + 1 + 1, 0, none⟩ = some (.int .i64 0) := hZ.cell 0
    have f_0 := hZ.free 0
    have r1 : w1.cell? ⟨w.heap.size + 1 + 1, 1, none⟩ = some (.int .i64 0) := hZ.cell 1
    have f_1 := hZ.free 1
    have r2 : w1.cell? ⟨w.heap.size + 1 + 1, 2, none⟩ = some (.int .i64 0) := hZ.cell 2
    have f_2 := hZ.free 2
    have r3 : w1.cell? ⟨w.heap.size + 1 + 1, 3, none⟩ = some (.int .i64 0) := hZ.cell 3
    have f_3 := hZ.free 3
    have r4 : w1.cell? ⟨w.heap.size + 1 + 1, 4, none⟩ = some (.int .i64 0) := hZ.cell 4
    have f_4 := hZ.free 4
    have r5 : w1.cell? ⟨w.heap.size + 1 + 1, 5, none⟩ = some (.int .i64 0) := hZ.cell 5
    have f_5 := hZ.free 5
    have r6 : w1.cell? ⟨w.heap.size + 1 + 1, 6, none⟩ = some (.int .i64 0) := hZ.cell 6
    have f_6 := hZ.free 6
    have r7 : w1.cell? ⟨w.heap.size + 1 + 1, 7, none⟩ = some (.int .i64 0) := hZ.cell 7
    have f_7 := hZ.free 7
    have lt_z := hZ.lt
    have HZ := Lib.hid hZ
    clear hov hZ hP hC h h2
    go_wp2
    have hX := HZ.out
    clear r0 r1 r2 r3 r4 r5 r6 r7
    have hF : Blok ((((((((w1.setCell ⟨(w.heap.size + 1 + 1), 0, none⟩ (.int .i64 0)).setCell ⟨(w.heap.size + 1 + 1), 1, none⟩ (.int .i64 0)).setCell ⟨(w.heap.size + 1 + 1), 2, none⟩ (.int .i64 0)).setCell ⟨(w.heap.size + 1 + 1), 3, none⟩ (.int .i64 0)).setCell ⟨(w.heap.size + 1 + 1), 4, none⟩ (.int .i64 0)).setCell ⟨(w.heap.size + 1 + 1), 5, none⟩ (.int .i64 0)).setCell ⟨(w.heap.size + 1 + 1), 6, none⟩ (.int .i64 0)).setCell ⟨(w.heap.size + 1 + 1), 7, none⟩ (.int .i64 0)) (w.heap.size + 1 + 1) 34 #[.int .i64 0, .int .i64 0, .int .i64 0, .int .i64 0, .int .i64 0, .int .i64 0, .int .i64 0, .int .i64 0] := by have h := ((((((((hX.set_ 0 (.int .i64 0)).set_ 1 (.int .i64 0)).set_ 2 (.int .i64 0)).set_ 3 (.int .i64 0)).set_ 4 (.int .i64 0)).set_ 5 (.int .i64 0)).set_ 6 (.int .i64 0)).set_ 7 (.int .i64 0)); simpa using h
    have hle0 : w.heap.size ≤ (w.heap.size + 1 + 1) := by first | exact Nat.le_refl _ | omega
    have hWf : Below w.heap.size w ((((((((w1.setCell ⟨(w.heap.size + 1 + 1), 0, none⟩ (.int .i64 0)).setCell ⟨(w.heap.size + 1 + 1), 1, none⟩ (.int .i64 0)).setCell ⟨(w.heap.size + 1 + 1), 2, none⟩ (.int .i64 0)).setCell ⟨(w.heap.size + 1 + 1), 3, none⟩ (.int .i64 0)).setCell ⟨(w.heap.size + 1 + 1), 4, none⟩ (.int .i64 0)).setCell ⟨(w.heap.size + 1 + 1), 5, none⟩ (.int .i64 0)).setCell ⟨(w.heap.size + 1 + 1), 6, none⟩ (.int .i64 0)).setCell ⟨(w.heap.size + 1 + 1), 7, none⟩ (.int .i64 0)) := ((((((((hB.setCell (p := ⟨(w.heap.size + 1 + 1), 0, none⟩) hle0 (.int .i64 0)).setCell (p := ⟨(w.heap.size + 1 + 1), 1, none⟩) hle0 (.int .i64 0)).setCell (p := ⟨(w.heap.size + 1 + 1), 2, none⟩) hle0 (.int .i64 0)).setCell (p := ⟨(w.heap.size + 1 + 1), 3, none⟩) hle0 (.int .i64 0)).setCell (p := ⟨(w.heap.size + 1 + 1), 4, none⟩) hle0 (.int .i64 0)).setCell (p := ⟨(w.heap.size + 1 + 1), 5, none⟩) hle0 (.int .i64 0)).setCell (p := ⟨(w.heap.size + 1 + 1), 6, none⟩) hle0 (.int .i64 0)).setCell (p := ⟨(w.heap.size + 1 + 1), 7, none⟩) hle0 (.int .i64 0))
    have hlF := hF.lt
    generalize ((((((((w1.setCell ⟨(w.heap.size + 1 + 1), 0, none⟩ (.int .i64 0)).setCell ⟨(w.heap.size + 1 + 1), 1, none⟩ (.int .i64 0)).setCell ⟨(w.heap.size + 1 + 1), 2, none⟩ (.int .i64 0)).setCell ⟨(w.heap.size + 1 + 1), 3, none⟩ (.int .i64 0)).setCell ⟨(w.heap.size + 1 + 1), 4, none⟩ (.int .i64 0)).setCell ⟨(w.heap.size + 1 + 1), 5, none⟩ (.int .i64 0)).setCell ⟨(w.heap.size + 1 + 1), 6, none⟩ (.int .i64 0)).setCell ⟨(w.heap.size + 1 + 1), 7, none⟩ (.int .i64 0)) = wf at *
    have r0 : wf.cell? ⟨(w.heap.size + 1 + 1), 0, none⟩ = some (.int .i64 0) := hF.cell 0
    have r1 : wf.cell? ⟨(w.heap.size + 1 + 1), 1, none⟩ = some (.int .i64 0) := hF.cell 1
    have r2 : wf.cell? ⟨(w.heap.size + 1 + 1), 2, none⟩ = some (.int .i64 0) := hF.cell 2
    have r3 : wf.cell? ⟨(w.heap.size + 1 + 1), 3, none⟩ = some (.int .i64 0) := hF.cell 3
    have r4 : wf.cell? ⟨(w.heap.size + 1 + 1), 4, none⟩ = some (.int .i64 0) := hF.cell 4
    have r5 : wf.cell? ⟨(w.heap.size + 1 + 1), 5, none⟩ = some (.int .i64 0) := hF.cell 5
    have r6 : wf.cell? ⟨(w.heap.size + 1 + 1), 6, none⟩ = some (.int .i64 0) := hF.cell 6
    have r7 : wf.cell? ⟨(w.heap.size + 1 + 1), 7, none⟩ = some (.int .i64 0) := hF.cell 7
    refine bodyPost_ret (v := .tuple #[.agg #[.int .i64 0, .int .i64 0, .int .i64 0, .int .i64 0, .int .i64 0, .int .i64 0, .int .i64 0, .int .i64 0], .bool false]) (by simp [results, Try.results12, go_sem, r0, r1, r2, r3, r4, r5, r6, r7, hlF]) rfl ?_
    rw [HOV.out]
    exact ⟨rfl, hWf⟩
  · have hsp := Kc.okC_span HOK.out
    obtain ⟨ov, hov⟩ : ∃ q, owltF rs x.fr x.tn x.st x.en = q := ⟨_, rfl⟩
    have HOV := Lib.hid hov
    have HOW := Lib.hid (owlt_is A n c rs x w1 HD.out hn h HR.out hsp ov hov)
    have p0 : w1.cell? ⟨w.heap.size, 0, none⟩ = some (.slice A1 n1 c1) := hP.cell 0
    have p1 : w1.cell? ⟨w.heap.size, 1, none⟩ = some (.slice A n c) := hP.cell 1
    have lt_p := hP.lt
    have k0 : w1.cell? ⟨w.heap.size + 1, 0, none⟩ = some (.int .i64 x.id) := hC.cell 0
    have k1 : w1.cell? ⟨w.heap.size + 1, 1, none⟩ = some (.int .i64 x.fr) := hC.cell 1
    have k2 : w1.cell? ⟨w.heap.size + 1, 2, none⟩ = some (.int .i64 x.tn) := hC.cell 2
    have k3 : w1.cell? ⟨w.heap.size + 1, 3, none⟩ = some (.int .i64 x.st) := hC.cell 3
    have k4 : w1.cell? ⟨w.heap.size + 1, 4, none⟩ = some (.int .i64 x.en) := hC.cell 4
    have k5 : w1.cell? ⟨w.heap.size + 1, 5, none⟩ = some (.int .i64 x.rt) := hC.cell 5
    have lt_c := hC.lt
    clear hov
    go_wp2_with fail
    refine HOW.out.mono ?_
    rintro e w2 ⟨v, rfl, hv, hb⟩
    replace h2 := h2.up hb
    replace hC := hC.below hb hC.lt
    replace hZ := hZ.below hb hZ.lt
    replace hB := hB.trans (hb.mono hs)
    replace hs := hB.size
    clear hb p0 p1 lt_p k0 k1 k2 k3 k4 k5 lt_c h hP HOW
    cases ov with
    | none =>
      have hov : o = none := by rw [← HO.out]; unfold edgeF; rw [if_pos HOK.out, HOV.out]; rfl
      have hyv : y = zeroEd := by rw [← HY.out, hov]; rfl
      subst hyv
      have HOV2 := Lib.hid hov
      have r0 : w2.cell? ⟨w.heap.size + 1 + 1, 0, none⟩ = some (.int .i64 0) := hZ.cell 0
      have f_0 := hZ.free 0
      have r1 : w2.cell? ⟨w.heap.size + 1 + 1, 1, none⟩ = some (.int .i64 0) := hZ.cell 1
      have f_1 := hZ.free 1
      have r2 : w2.cell? ⟨w.heap.size + 1 + 1, 2, none⟩ = some (.int .i64 0) := hZ.cell 2
      have f_2 := hZ.free 2
      have r3 : w2.cell? ⟨w.heap.size + 1 + 1, 3, none⟩ = some (.int .i64 0) := hZ.cell 3
      have f_3 := hZ.free 3
      have r4 : w2.cell? ⟨w.heap.size + 1 + 1, 4, none⟩ = some (.int .i64 0) := hZ.cell 4
      have f_4 := hZ.free 4
      have r5 : w2.cell? ⟨w.heap.size + 1 + 1, 5, none⟩ = some (.int .i64 0) := hZ.cell 5
      have f_5 := hZ.free 5
      have r6 : w2.cell? ⟨w.heap.size + 1 + 1, 6, none⟩ = some (.int .i64 0) := hZ.cell 6
      have f_6 := hZ.free 6
      have r7 : w2.cell? ⟨w.heap.size + 1 + 1, 7, none⟩ = some (.int .i64 0) := hZ.cell 7
      have f_7 := hZ.free 7
      have lt_z := hZ.lt
      have HZ := Lib.hid hZ
      clear hov hZ hC h2 hv
      go_wp2
      have hX := HZ.out
      clear r0 r1 r2 r3 r4 r5 r6 r7
      have hF : Blok ((((((((w2.setCell ⟨(w.heap.size + 1 + 1), 0, none⟩ (.int .i64 0)).setCell ⟨(w.heap.size + 1 + 1), 1, none⟩ (.int .i64 0)).setCell ⟨(w.heap.size + 1 + 1), 2, none⟩ (.int .i64 0)).setCell ⟨(w.heap.size + 1 + 1), 3, none⟩ (.int .i64 0)).setCell ⟨(w.heap.size + 1 + 1), 4, none⟩ (.int .i64 0)).setCell ⟨(w.heap.size + 1 + 1), 5, none⟩ (.int .i64 0)).setCell ⟨(w.heap.size + 1 + 1), 6, none⟩ (.int .i64 0)).setCell ⟨(w.heap.size + 1 + 1), 7, none⟩ (.int .i64 0)) (w.heap.size + 1 + 1) 34 #[.int .i64 0, .int .i64 0, .int .i64 0, .int .i64 0, .int .i64 0, .int .i64 0, .int .i64 0, .int .i64 0] := by have h := ((((((((hX.set_ 0 (.int .i64 0)).set_ 1 (.int .i64 0)).set_ 2 (.int .i64 0)).set_ 3 (.int .i64 0)).set_ 4 (.int .i64 0)).set_ 5 (.int .i64 0)).set_ 6 (.int .i64 0)).set_ 7 (.int .i64 0)); simpa using h
      have hle0 : w.heap.size ≤ (w.heap.size + 1 + 1) := by first | exact Nat.le_refl _ | omega
      have hWf : Below w.heap.size w ((((((((w2.setCell ⟨(w.heap.size + 1 + 1), 0, none⟩ (.int .i64 0)).setCell ⟨(w.heap.size + 1 + 1), 1, none⟩ (.int .i64 0)).setCell ⟨(w.heap.size + 1 + 1), 2, none⟩ (.int .i64 0)).setCell ⟨(w.heap.size + 1 + 1), 3, none⟩ (.int .i64 0)).setCell ⟨(w.heap.size + 1 + 1), 4, none⟩ (.int .i64 0)).setCell ⟨(w.heap.size + 1 + 1), 5, none⟩ (.int .i64 0)).setCell ⟨(w.heap.size + 1 + 1), 6, none⟩ (.int .i64 0)).setCell ⟨(w.heap.size + 1 + 1), 7, none⟩ (.int .i64 0)) := ((((((((hB.setCell (p := ⟨(w.heap.size + 1 + 1), 0, none⟩) hle0 (.int .i64 0)).setCell (p := ⟨(w.heap.size + 1 + 1), 1, none⟩) hle0 (.int .i64 0)).setCell (p := ⟨(w.heap.size + 1 + 1), 2, none⟩) hle0 (.int .i64 0)).setCell (p := ⟨(w.heap.size + 1 + 1), 3, none⟩) hle0 (.int .i64 0)).setCell (p := ⟨(w.heap.size + 1 + 1), 4, none⟩) hle0 (.int .i64 0)).setCell (p := ⟨(w.heap.size + 1 + 1), 5, none⟩) hle0 (.int .i64 0)).setCell (p := ⟨(w.heap.size + 1 + 1), 6, none⟩) hle0 (.int .i64 0)).setCell (p := ⟨(w.heap.size + 1 + 1), 7, none⟩) hle0 (.int .i64 0))
      have hlF := hF.lt
      generalize ((((((((w2.setCell ⟨(w.heap.size + 1 + 1), 0, none⟩ (.int .i64 0)).setCell ⟨(w.heap.size + 1 + 1), 1, none⟩ (.int .i64 0)).setCell ⟨(w.heap.size + 1 + 1), 2, none⟩ (.int .i64 0)).setCell ⟨(w.heap.size + 1 + 1), 3, none⟩ (.int .i64 0)).setCell ⟨(w.heap.size + 1 + 1), 4, none⟩ (.int .i64 0)).setCell ⟨(w.heap.size + 1 + 1), 5, none⟩ (.int .i64 0)).setCell ⟨(w.heap.size + 1 + 1), 6, none⟩ (.int .i64 0)).setCell ⟨(w.heap.size + 1 + 1), 7, none⟩ (.int .i64 0)) = wf at *
      have r0 : wf.cell? ⟨(w.heap.size + 1 + 1), 0, none⟩ = some (.int .i64 0) := hF.cell 0
      have r1 : wf.cell? ⟨(w.heap.size + 1 + 1), 1, none⟩ = some (.int .i64 0) := hF.cell 1
      have r2 : wf.cell? ⟨(w.heap.size + 1 + 1), 2, none⟩ = some (.int .i64 0) := hF.cell 2
      have r3 : wf.cell? ⟨(w.heap.size + 1 + 1), 3, none⟩ = some (.int .i64 0) := hF.cell 3
      have r4 : wf.cell? ⟨(w.heap.size + 1 + 1), 4, none⟩ = some (.int .i64 0) := hF.cell 4
      have r5 : wf.cell? ⟨(w.heap.size + 1 + 1), 5, none⟩ = some (.int .i64 0) := hF.cell 5
      have r6 : wf.cell? ⟨(w.heap.size + 1 + 1), 6, none⟩ = some (.int .i64 0) := hF.cell 6
      have r7 : wf.cell? ⟨(w.heap.size + 1 + 1), 7, none⟩ = some (.int .i64 0) := hF.cell 7
      refine bodyPost_ret (v := .tuple #[.agg #[.int .i64 0, .int .i64 0, .int .i64 0, .int .i64 0, .int .i64 0, .int .i64 0, .int .i64 0, .int .i64 0], .bool false]) (by simp [results, Try.results12, go_sem, r0, r1, r2, r3, r4, r5, r6, r7, hlF]) rfl ?_
      rw [HOV2.out]
      exact ⟨rfl, hWf⟩
    | some u =>
      obtain rfl := hv u rfl
      have hcb : contactB x.id x.fr x.tn x.st x.en x.rt = true := HOK.out
      obtain ⟨⟨i1, i2⟩, _, _, _, j1, j2, j3, k1', k2'⟩ := contactB_spec.1 hcb
      have hbk := Kb.backF_ok (Kb.right_ok HR2.out x.id) cl
      obtain ⟨bl, hbl⟩ : ∃ q, Kb.backF (Kb.rowB bk x.id) cl = q := ⟨_, rfl⟩
      rw [hbl] at hbk
      have hcd := cdiv_bounds hbk.1 k1'
      obtain ⟨dq, hdq⟩ : ∃ q, cdiv bl x.rt = q := ⟨_, rfl⟩
      rw [hdq] at hcd
      obtain ⟨rm, hrm⟩ : ∃ q, Kb.roomF (ctOf x) (Kb.rowB bk x.id) cl = q := ⟨_, rfl⟩
      have hov : o = some ⟨x.id, x.fr, x.tn, min (x.st + dq) 1099511627776, x.en, x.rt, v, rm⟩ := by
        rw [← HO.out]; unfold edgeF; rw [if_pos HOK.out, HOV.out, hbl, hdq, hrm]; rfl
      have hyv : y = ⟨x.id, x.fr, x.tn, min (x.st + dq) 1099511627776, x.en, x.rt, v, rm⟩ := by rw [← HY.out, hov]; rfl
      have HOV2 := Lib.hid hov
      have HYV := Lib.hid hyv
      have HBL := Lib.hid hbl
      have HDQ := Lib.hid hdq
      have HRM := Lib.hid hrm
      have hq1 : 0 ≤ dq := hcd.1
      have hq2 : dq ≤ 4611686018427387904 := by
        have h1 := hcd.2.1
        have h2 := hbk.2
        omega
      have HCE := Lib.hid (fun (w' : World) => ceil_yes (a := bl) (b := x.rt) hbk.1 (by omega) k1' w')
      have HQ2 : Hid (∀ dd os, Sl (grow (redrawn w2 dd) os) (grow (redrawn w2 dd) os).heap.size 4 A2 n2 c2 (flatBk bk)) := fun dd os => h2.up (below_regrown w2 dd os)
      have k0 : w2.cell? ⟨w.heap.size + 1, 0, none⟩ = some (.int .i64 x.id) := hC.cell 0
      have k1 : w2.cell? ⟨w.heap.size + 1, 1, none⟩ = some (.int .i64 x.fr) := hC.cell 1
      have k2 : w2.cell? ⟨w.heap.size + 1, 2, none⟩ = some (.int .i64 x.tn) := hC.cell 2
      have k3 : w2.cell? ⟨w.heap.size + 1, 3, none⟩ = some (.int .i64 x.st) := hC.cell 3
      have k4 : w2.cell? ⟨w.heap.size + 1, 4, none⟩ = some (.int .i64 x.en) := hC.cell 4
      have k5 : w2.cell? ⟨w.heap.size + 1, 5, none⟩ = some (.int .i64 x.rt) := hC.cell 5
      have lt_c := hC.lt
      clear hov hyv hbl hdq hrm hcb hbk hcd HO HY HOV
      go_wp2_with fail
      have q_k0 := fun d os => cell_regrown k0 d os
      have q_k1 := fun d os => cell_regrown k1 d os
      have q_k2 := fun d os => cell_regrown k2 d os
      have q_k3 := fun d os => cell_regrown k3 d os
      have q_k4 := fun d os => cell_regrown k4 d os
      have q_k5 := fun d os => cell_regrown k5 d os
      try simp only [List.append]
      first | refine wp_region_text_below ?_ | refine wp_region_quiet_below (by kernel_rfl) (by kernel_rfl) ?_
      repeat (go_big_quiet_step ((first | (go_at_call 35; with_reducible exact Calls.regrown_of (Kb.backlog_any A2 n2 c2 bk x.id cl _ HD2.out hn2 (HQ2.out _ _) (Kb.right_sort HR2.out) _ rfl (Kb.right_ok HR2.out x.id) bl HBL.out)) | (go_at_call 34; with_reducible exact HDQ.out ▸ Calls.regrown_same (HCE.out _)))))
      refine wpQuiet_nil ?_
      intro _ hqw
      obtain ⟨pq, hqw⟩ := hqw
      subst hqw
      clear q_k0 q_k1 q_k2 q_k3 q_k4 q_k5
      have hb := below_regrown w2 pq.d pq.os
      replace h2 := h2.up hb
      replace hC := hC.below hb hC.lt
      replace hZ := hZ.below hb hZ.lt
      replace hB := hB.trans (hb.mono hs)
      replace hs := hB.size
      clear hb k0 k1 k2 k3 k4 k5 lt_c HBL HDQ HQ2 HCE
      generalize grow (redrawn w2 pq.d) pq.os = w3 at *
      have HQ3 : Hid (∀ dd os, Sl (grow (redrawn w3 dd) os) (grow (redrawn w3 dd) os).heap.size 4 A2 n2 c2 (flatBk bk)) := fun dd os => h2.up (below_regrown w3 dd os)
      have k0 : w3.cell? ⟨w.heap.size + 1, 0, none⟩ = some (.int .i64 x.id) := hC.cell 0
      have k1 : w3.cell? ⟨w.heap.size + 1, 1, none⟩ = some (.int .i64 x.fr) := hC.cell 1
      have k2 : w3.cell? ⟨w.heap.size + 1, 2, none⟩ = some (.int .i64 x.tn) := hC.cell 2
      have k3 : w3.cell? ⟨w.heap.size + 1, 3, none⟩ = some (.int .i64 x.st) := hC.cell 3
      have k4 : w3.cell? ⟨w.heap.size + 1, 4, none⟩ = some (.int .i64 x.en) := hC.cell 4
      have k5 : w3.cell? ⟨w.heap.size + 1, 5, none⟩ = some (.int .i64 x.rt) := hC.cell 5
      have lt_c := hC.lt
      have HRC := Lib.hid (show ∀ w' : World, Sl w' w'.heap.size 4 A2 n2 c2 (flatBk bk) → Calls Try.prog 36 #[.slice A2 n2 c2, .agg #[.int .i64 x.id, .int .i64 x.fr, .int .i64 x.tn, .int .i64 x.st, .int .i64 x.en, .int .i64 x.rt], .int .i64 cl] w' fun e w'' => e = .returned (.int .i64 rm) ∧ Below w'.heap.size w' w'' from fun w' hl' => Kb.room_any A2 n2 c2 bk (ctOf x) cl w' HD2.out hn2 hl' (Kb.right_sort HR2.out) _ rfl (Kb.right_ok HR2.out x.id) rm HRM.out)
      have g0 : IntKind.i64.wrap (x.st + dq) = x.st + dq := by rw [IntWalk.i64_in _ (by omega)]
      go_wp2_with fail
      obtain ⟨om, hom⟩ : ∃ q, min (x.st + dq) 1099511627776 = q := ⟨_, rfl⟩
      have hm : (x.st + dq ≤ 1099511627776 ∧ om = x.st + dq) ∨ (1099511627776 < x.st + dq ∧ om = 1099511627776) := by omega
      have HYV2 := Lib.hid (hom ▸ HYV.out)
      have HOV3 := Lib.hid (hom ▸ HOV2.out)
      clear hom HYV HOV2
      rcases hm with ⟨hm, rfl⟩ | ⟨hm, rfl⟩
      all_goals
        have q_k0 := fun d os => cell_regrown k0 d os
        have q_k1 := fun d os => cell_regrown k1 d os
        have q_k2 := fun d os => cell_regrown k2 d os
        have q_k3 := fun d os => cell_regrown k3 d os
        have q_k4 := fun d os => cell_regrown k4 d os
        have q_k5 := fun d os => cell_regrown k5 d os
        try simp only [List.append]
        refine wp_region_grown_tail 21 (by kernel_rfl) (by kernel_rfl) ?_
        simp only [Nat.reduceAdd, List.take_succ_cons, List.take_zero]
        repeat (go_big_quiet_step ((go_at_call 36; with_reducible exact Calls.regrown_of (HRC.out _ (HQ3.out _ _)))))
        refine wpQuiet_nil ?_
        intro _ hqw
        obtain ⟨pq, hqw⟩ := hqw
        subst hqw
        clear q_k0 q_k1 q_k2 q_k3 q_k4 q_k5
        have hb := below_regrown w3 pq.d pq.os
        have hZ4 := hZ.below hb hZ.lt
        have hB4 := hB.trans (hb.mono hs)
        have hs4 := hB4.size
        clear hb k0 k1 k2 k3 k4 k5 lt_c hZ hB hs hC h2
        generalize grow (redrawn w3 pq.d) pq.os = w4 at *
        have r0 : w4.cell? ⟨w.heap.size + 1 + 1, 0, none⟩ = some (.int .i64 0) := hZ4.cell 0
        have f_0 := hZ4.free 0
        have r1 : w4.cell? ⟨w.heap.size + 1 + 1, 1, none⟩ = some (.int .i64 0) := hZ4.cell 1
        have f_1 := hZ4.free 1
        have r2 : w4.cell? ⟨w.heap.size + 1 + 1, 2, none⟩ = some (.int .i64 0) := hZ4.cell 2
        have f_2 := hZ4.free 2
        have r3 : w4.cell? ⟨w.heap.size + 1 + 1, 3, none⟩ = some (.int .i64 0) := hZ4.cell 3
        have f_3 := hZ4.free 3
        have r4 : w4.cell? ⟨w.heap.size + 1 + 1, 4, none⟩ = some (.int .i64 0) := hZ4.cell 4
        have f_4 := hZ4.free 4
        have r5 : w4.cell? ⟨w.heap.size + 1 + 1, 5, none⟩ = some (.int .i64 0) := hZ4.cell 5
        have f_5 := hZ4.free 5
        have r6 : w4.cell? ⟨w.heap.size + 1 + 1, 6, none⟩ = some (.int .i64 0) := hZ4.cell 6
        have f_6 := hZ4.free 6
        have r7 : w4.cell? ⟨w.heap.size + 1 + 1, 7, none⟩ = some (.int .i64 0) := hZ4.cell 7
        have f_7 := hZ4.free 7
        have lt_z := hZ4.lt
        have HZ := Lib.hid hZ4
        clear hZ4
        go_wp2
        have hX := HZ.out
        clear r0 r1 r2 r3 r4 r5 r6 r7
      next =>
        have hF : Blok ((((((((w4.setCell ⟨(w.heap.size + 1 + 1), 0, none⟩ (.int .i64 x.id)).setCell ⟨(w.heap.size + 1 + 1), 1, none⟩ (.int .i64 x.fr)).setCell ⟨(w.heap.size + 1 + 1), 2, none⟩ (.int .i64 x.tn)).setCell ⟨(w.heap.size + 1 + 1), 3, none⟩ (.int .i64 (x.st + dq))).setCell ⟨(w.heap.size + 1 + 1), 4, none⟩ (.int .i64 x.en)).setCell ⟨(w.heap.size + 1 + 1), 5, none⟩ (.int .i64 x.rt)).setCell ⟨(w.heap.size + 1 + 1), 6, none⟩ (.int .i64 v)).setCell ⟨(w.heap.size + 1 + 1), 7, none⟩ (.int .i64 rm)) (w.heap.size + 1 + 1) 34 #[.int .i64 x.id, .int .i64 x.fr, .int .i64 x.tn, .int .i64 (x.st + dq), .int .i64 x.en, .int .i64 x.rt, .int .i64 v, .int .i64 rm] := by have h := ((((((((hX.set_ 0 (.int .i64 x.id)).set_ 1 (.int .i64 x.fr)).set_ 2 (.int .i64 x.tn)).set_ 3 (.int .i64 (x.st + dq))).set_ 4 (.int .i64 x.en)).set_ 5 (.int .i64 x.rt)).set_ 6 (.int .i64 v)).set_ 7 (.int .i64 rm)); simpa using h
        have hle0 : w.heap.size ≤ (w.heap.size + 1 + 1) := by first | exact Nat.le_refl _ | omega
        have hWf : Below w.heap.size w ((((((((w4.setCell ⟨(w.heap.size + 1 + 1), 0, none⟩ (.int .i64 x.id)).setCell ⟨(w.heap.size + 1 + 1), 1, none⟩ (.int .i64 x.fr)).setCell ⟨(w.heap.size + 1 + 1), 2, none⟩ (.int .i64 x.tn)).setCell ⟨(w.heap.size + 1 + 1), 3, none⟩ (.int .i64 (x.st + dq))).setCell ⟨(w.heap.size + 1 + 1), 4, none⟩ (.int .i64 x.en)).setCell ⟨(w.heap.size + 1 + 1), 5, none⟩ (.int .i64 x.rt)).setCell ⟨(w.heap.size + 1 + 1), 6, none⟩ (.int .i64 v)).setCell ⟨(w.heap.size + 1 + 1), 7, none⟩ (.int .i64 rm)) := ((((((((hB4.setCell (p := ⟨(w.heap.size + 1 + 1), 0, none⟩) hle0 (.int .i64 x.id)).setCell (p := ⟨(w.heap.size + 1 + 1), 1, none⟩) hle0 (.int .i64 x.fr)).setCell (p := ⟨(w.heap.size + 1 + 1), 2, none⟩) hle0 (.int .i64 x.tn)).setCell (p := ⟨(w.heap.size + 1 + 1), 3, none⟩) hle0 (.int .i64 (x.st + dq))).setCell (p := ⟨(w.heap.size + 1 + 1), 4, none⟩) hle0 (.int .i64 x.en)).setCell (p := ⟨(w.heap.size + 1 + 1), 5, none⟩) hle0 (.int .i64 x.rt)).setCell (p := ⟨(w.heap.size + 1 + 1), 6, none⟩) hle0 (.int .i64 v)).setCell (p := ⟨(w.heap.size + 1 + 1), 7, none⟩) hle0 (.int .i64 rm))
        have hlF := hF.lt
        generalize ((((((((w4.setCell ⟨(w.heap.size + 1 + 1), 0, none⟩ (.int .i64 x.id)).setCell ⟨(w.heap.size + 1 + 1), 1, none⟩ (.int .i64 x.fr)).setCell ⟨(w.heap.size + 1 + 1), 2, none⟩ (.int .i64 x.tn)).setCell ⟨(w.heap.size + 1 + 1), 3, none⟩ (.int .i64 (x.st + dq))).setCell ⟨(w.heap.size + 1 + 1), 4, none⟩ (.int .i64 x.en)).setCell ⟨(w.heap.size + 1 + 1), 5, none⟩ (.int .i64 x.rt)).setCell ⟨(w.heap.size + 1 + 1), 6, none⟩ (.int .i64 v)).setCell ⟨(w.heap.size + 1 + 1), 7, none⟩ (.int .i64 rm)) = wf at *
        have r0 : wf.cell? ⟨(w.heap.size + 1 + 1), 0, none⟩ = some (.int .i64 x.id) := hF.cell 0
        have r1 : wf.cell? ⟨(w.heap.size + 1 + 1), 1, none⟩ = some (.int .i64 x.fr) := hF.cell 1
        have r2 : wf.cell? ⟨(w.heap.size + 1 + 1), 2, none⟩ = some (.int .i64 x.tn) := hF.cell 2
        have r3 : wf.cell? ⟨(w.heap.size + 1 + 1), 3, none⟩ = some (.int .i64 (x.st + dq)) := hF.cell 3
        have r4 : wf.cell? ⟨(w.heap.size + 1 + 1), 4, none⟩ = some (.int .i64 x.en) := hF.cell 4
        have r5 : wf.cell? ⟨(w.heap.size + 1 + 1), 5, none⟩ = some (.int .i64 x.rt) := hF.cell 5
        have r6 : wf.cell? ⟨(w.heap.size + 1 + 1), 6, none⟩ = some (.int .i64 v) := hF.cell 6
        have r7 : wf.cell? ⟨(w.heap.size + 1 + 1), 7, none⟩ = some (.int .i64 rm) := hF.cell 7
        refine bodyPost_ret (v := .tuple #[.agg #[.int .i64 x.id, .int .i64 x.fr, .int .i64 x.tn, .int .i64 (x.st + dq), .int .i64 x.en, .int .i64 x.rt, .int .i64 v, .int .i64 rm], .bool true]) (by simp [results, Try.results12, go_sem, r0, r1, r2, r3, r4, r5, r6, r7, hlF]) rfl ?_
        rw [HOV3.out, HYV2.out]
        exact ⟨rfl, hWf⟩
      next =>
        have hF : Blok ((((((((w4.setCell ⟨(w.heap.size + 1 + 1), 0, none⟩ (.int .i64 x.id)).setCell ⟨(w.heap.size + 1 + 1), 1, none⟩ (.int .i64 x.fr)).setCell ⟨(w.heap.size + 1 + 1), 2, none⟩ (.int .i64 x.tn)).setCell ⟨(w.heap.size + 1 + 1), 3, none⟩ (.int .i64 1099511627776)).setCell ⟨(w.heap.size + 1 + 1), 4, none⟩ (.int .i64 x.en)).setCell ⟨(w.heap.size + 1 + 1), 5, none⟩ (.int .i64 x.rt)).setCell ⟨(w.heap.size + 1 + 1), 6, none⟩ (.int .i64 v)).setCell ⟨(w.heap.size + 1 + 1), 7, none⟩ (.int .i64 rm)) (w.heap.size + 1 + 1) 34 #[.int .i64 x.id, .int .i64 x.fr, .int .i64 x.tn, .int .i64 1099511627776, .int .i64 x.en, .int .i64 x.rt, .int .i64 v, .int .i64 rm] := by have h := ((((((((hX.set_ 0 (.int .i64 x.id)).set_ 1 (.int .i64 x.fr)).set_ 2 (.int .i64 x.tn)).set_ 3 (.int .i64 1099511627776)).set_ 4 (.int .i64 x.en)).set_ 5 (.int .i64 x.rt)).set_ 6 (.int .i64 v)).set_ 7 (.int .i64 rm)); simpa using h
        have hle0 : w.heap.size ≤ (w.heap.size + 1 + 1) := by first | exact Nat.le_refl _ | omega
        have hWf : Below w.heap.size w ((((((((w4.setCell ⟨(w.heap.size + 1 + 1), 0, none⟩ (.int .i64 x.id)).setCell ⟨(w.heap.size + 1 + 1), 1, none⟩ (.int .i64 x.fr)).setCell ⟨(w.heap.size + 1 + 1), 2, none⟩ (.int .i64 x.tn)).setCell ⟨(w.heap.size + 1 + 1), 3, none⟩ (.int .i64 1099511627776)).setCell ⟨(w.heap.size + 1 + 1), 4, none⟩ (.int .i64 x.en)).setCell ⟨(w.heap.size + 1 + 1), 5, none⟩ (.int .i64 x.rt)).setCell ⟨(w.heap.size + 1 + 1), 6, none⟩ (.int .i64 v)).setCell ⟨(w.heap.size + 1 + 1), 7, none⟩ (.int .i64 rm)) := ((((((((hB4.setCell (p := ⟨(w.heap.size + 1 + 1), 0, none⟩) hle0 (.int .i64 x.id)).setCell (p := ⟨(w.heap.size + 1 + 1), 1, none⟩) hle0 (.int .i64 x.fr)).setCell (p := ⟨(w.heap.size + 1 + 1), 2, none⟩) hle0 (.int .i64 x.tn)).setCell (p := ⟨(w.heap.size + 1 + 1), 3, none⟩) hle0 (.int .i64 1099511627776)).setCell (p := ⟨(w.heap.size + 1 + 1), 4, none⟩) hle0 (.int .i64 x.en)).setCell (p := ⟨(w.heap.size + 1 + 1), 5, none⟩) hle0 (.int .i64 x.rt)).setCell (p := ⟨(w.heap.size + 1 + 1), 6, none⟩) hle0 (.int .i64 v)).setCell (p := ⟨(w.heap.size + 1 + 1), 7, none⟩) hle0 (.int .i64 rm))
        have hlF := hF.lt
        generalize ((((((((w4.setCell ⟨(w.heap.size + 1 + 1), 0, none⟩ (.int .i64 x.id)).setCell ⟨(w.heap.size + 1 + 1), 1, none⟩ (.int .i64 x.fr)).setCell ⟨(w.heap.size + 1 + 1), 2, none⟩ (.int .i64 x.tn)).setCell ⟨(w.heap.size + 1 + 1), 3, none⟩ (.int .i64 1099511627776)).setCell ⟨(w.heap.size + 1 + 1), 4, none⟩ (.int .i64 x.en)).setCell ⟨(w.heap.size + 1 + 1), 5, none⟩ (.int .i64 x.rt)).setCell ⟨(w.heap.size + 1 + 1), 6, none⟩ (.int .i64 v)).setCell ⟨(w.heap.size + 1 + 1), 7, none⟩ (.int .i64 rm)) = wf at *
        have r0 : wf.cell? ⟨(w.heap.size + 1 + 1), 0, none⟩ = some (.int .i64 x.id) := hF.cell 0
        have r1 : wf.cell? ⟨(w.heap.size + 1 + 1), 1, none⟩ = some (.int .i64 x.fr) := hF.cell 1
        have r2 : wf.cell? ⟨(w.heap.size + 1 + 1), 2, none⟩ = some (.int .i64 x.tn) := hF.cell 2
        have r3 : wf.cell? ⟨(w.heap.size + 1 + 1), 3, none⟩ = some (.int .i64 1099511627776) := hF.cell 3
        have r4 : wf.cell? ⟨(w.heap.size + 1 + 1), 4, none⟩ = some (.int .i64 x.en) := hF.cell 4
        have r5 : wf.cell? ⟨(w.heap.size + 1 + 1), 5, none⟩ = some (.int .i64 x.rt) := hF.cell 5
        have r6 : wf.cell? ⟨(w.heap.size + 1 + 1), 6, none⟩ = some (.int .i64 v) := hF.cell 6
        have r7 : wf.cell? ⟨(w.heap.size + 1 + 1), 7, none⟩ = some (.int .i64 rm) := hF.cell 7
        refine bodyPost_ret (v := .tuple #[.agg #[.int .i64 x.id, .int .i64 x.fr, .int .i64 x.tn, .int .i64 1099511627776, .int .i64 x.en, .int .i64 x.rt, .int .i64 v, .int .i64 rm], .bool true]) (by simp [results, Try.results12, go_sem, r0, r1, r2, r3, r4, r5, r6, r7, hlF]) rfl ?_
        rw [HOV3.out, HYV2.out]
        exact ⟨rfl, hWf⟩
end Go.Proofs.Ytfdphpmcgidmiaa

/- Contracts of package view: Find, From, Same. -/
namespace Go.Proofs.Ytfdphpmcgidmiaa
open Go.ChangeShapes Go.WideShapes Go.ChangeAt Go.RowKit Go.Sort
set_option linter.unusedSimpArgs false
set_option linter.unusedVariables false
theorem own_below {w w' : World} {base : Nat} {e : TypeId} {size n : Nat} {v : Value} {xs : List Value} (h : w.ownsRow base e size v n xs) (hb : Below w.heap.size w w') : w'.ownsRow base e size v n xs :=
  h.kept (grown_of_below (row := some w.heap.size) hb) (.inr (fun e => by have := (h.lt _ e).2; omega))
theorem flatEd_one_ (y : Ed) : flatEd [y] = [.int .i64 y.id, .int .i64 y.fr, .int .i64 y.tn, .int .i64 y.op, .int .i64 y.en, .int .i64 y.ra, .int .i64 y.ow, .int .i64 y.ro] := rfl
theorem take_snocEd {l : List Ed} {i : Nat} (h : i < l.length) : l.take (i + 1) = l.take i ++ [gEd l i] := by
  rw [List.take_succ_eq_append_getElem h, gEd_eq h]
def stepE (l : List Ed) (i : Nat) : Bool := (gEd l i).ok && (i == 0 || decide ((gEd l (i - 1)).id < (gEd l i).id))
/-- All edges are right, their IDs rise. -/
def rightE (l : List Ed) : Bool := (List.range l.length).all (stepE l)
theorem rightE_true {l : List Ed} : rightE l = true ↔ ∀ i, i < l.length → stepE l i = true := by simp [rightE, List.all_eq_true]
theorem rightE_false {l : List Ed} {i : Nat} (hi : i < l.length) (h : stepE l i = false) : rightE l = false := by
  rw [Bool.eq_false_iff]; intro e
  have := rightE_true.1 e i hi
  rw [h] at this; cases this
theorem rightE_at {l : List Ed} (h : rightE l = true) {i : Nat} (hi : i < l.length) : (gEd l i).ok = true ∧ (i ≠ 0 → (gEd l (i - 1)).id < (gEd l i).id) := by
  have := rightE_true.1 h i hi
  unfold stepE at this
  simp only [Bool.and_eq_true, Bool.or_eq_true, beq_iff_eq, decide_eq_true_eq] at this
  exact ⟨this.1, fun h0 => this.2.resolve_left h0⟩
theorem rightE_lt {l : List Ed} (h : rightE l = true) : ∀ (j i : Nat), i < j → j < l.length → (gEd l i).id < (gEd l j).id
  | 0, i, h1, _ => by omega
  | j + 1, i, h1, h2 => by
    have hs := (rightE_at h h2).2 (by omega)
    rw [Nat.add_sub_cancel] at hs
    by_cases e : i = j
    · rw [e]; exact hs
    · have := rightE_lt h j i (by omega) (by omega); omega
theorem mem_gEd {l : List Ed} {e : Ed} (h : e ∈ l) : ∃ i, i < l.length ∧ gEd l i = e := by
  obtain ⟨i, hi, rfl⟩ := List.getElem_of_mem h
  exact ⟨i, hi, gEd_eq hi⟩
theorem rightE_ok {l : List Ed} (h : rightE l = true) {e : Ed} (he : e ∈ l) : e.ok = true := by
  obtain ⟨i, hi, rfl⟩ := mem_gEd he
  exact (rightE_at h hi).1
def findE (l : List Ed) (id : Int) : Option Ed := l.find? (fun e => e.id == id)
theorem findE_some {l : List Ed} {id : Int} {e : Ed} (h : findE l id = some e) : e ∈ l ∧ e.id = id :=
  ⟨List.mem_of_find?_eq_some h, by simpa using List.find?_some h⟩
theorem findE_at {l : List Ed} {id : Int} {i : Nat} (hi : i < l.length) (he : (gEd l i).id = id) (hn : ∀ j, j < i → (gEd l j).id ≠ id) : findE l id = some (gEd l i) := by
  unfold findE
  rw [List.find?_eq_some_iff_getElem]
  refine ⟨by simpa using he, i, hi, (gEd_eq hi).symm, fun j hj => ?_⟩
  have := hn j hj
  rw [gEd_eq (by omega : j < l.length)] at this
  simpa using this
theorem findE_right {l : List Ed} (h : rightE l = true) {i : Nat} (hi : i < l.length) : findE l (gEd l i).id = some (gEd l i) :=
  findE_at hi rfl fun j hj => by have := rightE_lt h i j hj hi; omega
theorem findE_none {l : List Ed} {id : Int} (hn : ∀ j, j < l.length → (gEd l j).id ≠ id) : findE l id = none := by
  unfold findE
  rw [List.find?_eq_none]
  intro x hx
  obtain ⟨j, hj, rfl⟩ := mem_gEd hx
  simpa using hn j hj
theorem findE_no {l : List Ed} {id : Int} (h : findE l id = none) {j : Nat} (hj : j < l.length) : (gEd l j).id ≠ id := by
  unfold findE at h
  rw [List.find?_eq_none] at h
  simpa using h _ (gEd_mem hj)
set_option maxHeartbeats 2000000 in
set_option maxRecDepth 100000 in
theorem vfind_any (A : Option Addr) (n c : Nat) (d : List Ed) (id : Int) (w : World) (hd : d.length = n) (hn : n ≤ 1000000) (h : Sl w w.heap.size 8 A n c (flatEd d)) (x : Ed) (b : Bool) (hx : (findE d id).getD zeroEd = x) (hb : (findE d id).isSome = b) :
    Calls Try.prog 14 #[.slice A n c, .int .i64 id] w fun e w' => e = .returned (.tuple #[.agg #[.int .i64 x.id, .int .i64 x.fr, .int .i64 x.tn, .int .i64 x.op, .int .i64 x.en, .int .i64 x.ra, .int .i64 x.ow, .int .i64 x.ro], .bool b]) ∧ Below w.heap.size w w' := by
  have hBa : Below w.heap.size w (w.alloc (.cells #[.int .i64 0, .int .i64 0, .int .i64 0, .int .i64 0, .int .i64 0, .int .i64 0, .int .i64 0, .int .i64 0] 34)) := by (repeat (first | exact Below.refl _ _ | refine Below.alloc ?_ (by first | omega | (simp; done) | (simp; omega)) _ | refine Below.setCell ?_ (by first | omega | (simp; done) | (simp; omega)) _ | refine Below.drew ?_))
  have hX := Blok.new w 34 #[.int .i64 0, .int .i64 0, .int .i64 0, .int .i64 0, .int .i64 0, .int .i64 0, .int .i64 0, .int .i64 0]
  have hl := h.below hBa
  have HD := Lib.hid hd
  have HXX := Lib.hid hx
  have HBX := Lib.hid hb
  clear h hd hx hb
  go_enter Try.func14, Try.ntmps14
  go_wp2
  generalize w.alloc (.cells #[.int .i64 0, .int .i64 0, .int .i64 0, .int .i64 0, .int .i64 0, .int .i64 0, .int .i64 0, .int .i64 0] 34) = w2 at *
  have HL := Lib.hid hl
  have HX := Lib.hid hX
  have HB := Lib.hid hBa
  clear hl hX hBa
  go_loopw [10] (fun iv wr => ∃ (i : Nat), iv = .int .i64 i ∧ i ≤ n ∧ Hid (∀ j, j < i → (gEd d j).id ≠ id) ∧ Hid (Sl wr w.heap.size 8 A n c (flatEd d)) ∧ Hid (Blok wr w.heap.size 34 #[.int .i64 0, .int .i64 0, .int .i64 0, .int .i64 0, .int .i64 0, .int .i64 0, .int .i64 0, .int .i64 0]) ∧ Below w.heap.size w wr) (fun iv _ => n - (intOf iv).toNat)
  case atStart => exact ⟨0, rfl, by omega, (fun j hj => by omega), HL.out, HX.out, HB.out⟩
  case round =>
    clear HL HX HB
    obtain ⟨i, rfl, hi, HN, HL, HX, hB⟩ := hrel
    have hs := hB.size
    by_cases hin : i < n
    · obtain ⟨ad, rfl, hab, c0, c1, c2, c3, c4, c5, c6, c7⟩ := HL.out.lst.atEd HD.out hin
      have hin' : i < d.length := by rw [HD.out]; exact hin
      obtain ⟨y, hy⟩ : ∃ y, gEd d i = y := ⟨_, rfl⟩
      rw [hy] at c0 c1 c2 c3 c4 c5 c6 c7
      have HY := Lib.hid hy
      have hYb := Blok.new wr 34 #[.int .i64 y.id, .int .i64 y.fr, .int .i64 y.tn, .int .i64 y.op, .int .i64 y.en, .int .i64 y.ra, .int .i64 y.ow, .int .i64 y.ro]
      have hBa : Below wr.heap.size wr (wr.alloc (.cells #[.int .i64 y.id, .int .i64 y.fr, .int .i64 y.tn, .int .i64 y.op, .int .i64 y.en, .int .i64 y.ra, .int .i64 y.ow, .int .i64 y.ro] 34)) := by (repeat (first | exact Below.refl _ _ | refine Below.alloc ?_ (by first | omega | (simp; done) | (simp; omega)) _ | refine Below.setCell ?_ (by first | omega | (simp; done) | (simp; omega)) _ | refine Below.drew ?_))
      have hX := HX.out.below hBa HX.out.lt
      have hB2 := hB.trans (hBa.mono hs)
      have hL2 := Lib.hid (HL.out.below (hBa.mono hs))
      clear hy
      go_upto_region 4 with fail
      clear c0 c1 c2 c3 c4 c5 c6 c7 hBa hB HL HX
      generalize wr.alloc (.cells #[.int .i64 y.id, .int .i64 y.fr, .int .i64 y.tn, .int .i64 y.op, .int .i64 y.en, .int .i64 y.ra, .int .i64 y.ow, .int .i64 y.ro] 34) = wx at *
      generalize wr.heap.size = bb at *
      have y0 : wx.cell? ⟨bb, 0, none⟩ = some (.int .i64 y.id) := hYb.cell 0
      have y1 : wx.cell? ⟨bb, 1, none⟩ = some (.int .i64 y.fr) := hYb.cell 1
      have y2 : wx.cell? ⟨bb, 2, none⟩ = some (.int .i64 y.tn) := hYb.cell 2
      have y3 : wx.cell? ⟨bb, 3, none⟩ = some (.int .i64 y.op) := hYb.cell 3
      have y4 : wx.cell? ⟨bb, 4, none⟩ = some (.int .i64 y.en) := hYb.cell 4
      have y5 : wx.cell? ⟨bb, 5, none⟩ = some (.int .i64 y.ra) := hYb.cell 5
      have y6 : wx.cell? ⟨bb, 6, none⟩ = some (.int .i64 y.ow) := hYb.cell 6
      have y7 : wx.cell? ⟨bb, 7, none⟩ = some (.int .i64 y.ro) := hYb.cell 7
      have lt_y := hYb.lt
      by_cases he : y.id = id
      · have hf := findE_at hin' (by rw [HY.out]; exact he) HN.out
        rw [HY.out] at hf
        have hxy : y = x := by rw [← HXX.out, hf]; rfl
        have hbt : b = true := by rw [← HBX.out, hf]; rfl
        subst hbt
        subst hxy
        have hq : (y.id == id) = true := beq_iff_eq.2 he
        have HXB := Lib.hid hX
        have r0 : wx.cell? ⟨w.heap.size, 0, none⟩ = some (.int .i64 0) := hX.cell 0
        have f_0 := hX.free 0
        have r1 : wx.cell? ⟨w.heap.size, 1, none⟩ = some (.int .i64 0) := hX.cell 1
        have f_1 := hX.free 1
        have r2 : wx.cell? ⟨w.heap.size, 2, none⟩ = some (.int .i64 0) := hX.cell 2
        have f_2 := hX.free 2
        have r3 : wx.cell? ⟨w.heap.size, 3, none⟩ = some (.int .i64 0) := hX.cell 3
        have f_3 := hX.free 3
        have r4 : wx.cell? ⟨w.heap.size, 4, none⟩ = some (.int .i64 0) := hX.cell 4
        have f_4 := hX.free 4
        have r5 : wx.cell? ⟨w.heap.size, 5, none⟩ = some (.int .i64 0) := hX.cell 5
        have f_5 := hX.free 5
        have r6 : wx.cell? ⟨w.heap.size, 6, none⟩ = some (.int .i64 0) := hX.cell 6
        have f_6 := hX.free 6
        have r7 : wx.cell? ⟨w.heap.size, 7, none⟩ = some (.int .i64 0) := hX.cell 7
        have f_7 := hX.free 7
        have lt_x := hX.lt
        clear hX hf he
        go_wp2
        have hX := HXB.out
        clear r0 r1 r2 r3 r4 r5 r6 r7
        have hF : Blok ((((((((wx.setCell ⟨w.heap.size, 0, none⟩ (.int .i64 y.id)).setCell ⟨w.heap.size, 1, none⟩ (.int .i64 y.fr)).setCell ⟨w.heap.size, 2, none⟩ (.int .i64 y.tn)).setCell ⟨w.heap.size, 3, none⟩ (.int .i64 y.op)).setCell ⟨w.heap.size, 4, none⟩ (.int .i64 y.en)).setCell ⟨w.heap.size, 5, none⟩ (.int .i64 y.ra)).setCell ⟨w.heap.size, 6, none⟩ (.int .i64 y.ow)).setCell ⟨w.heap.size, 7, none⟩ (.int .i64 y.ro)) w.heap.size 34 #[.int .i64 y.id, .int .i64 y.fr, .int .i64 y.tn, .int .i64 y.op, .int .i64 y.en, .int .i64 y.ra, .int .i64 y.ow, .int .i64 y.ro] := by have h := ((((((((hX.set_ 0 (.int .i64 y.id)).set_ 1 (.int .i64 y.fr)).set_ 2 (.int .i64 y.tn)).set_ 3 (.int .i64 y.op)).set_ 4 (.int .i64 y.en)).set_ 5 (.int .i64 y.ra)).set_ 6 (.int .i64 y.ow)).set_ 7 (.int .i64 y.ro)); simpa using h
        have hle0 : w.heap.size ≤ w.heap.size := by first | exact Nat.le_refl _ | omega
        have hWf : Below w.heap.size w ((((((((wx.setCell ⟨w.heap.size, 0, none⟩ (.int .i64 y.id)).setCell ⟨w.heap.size, 1, none⟩ (.int .i64 y.fr)).setCell ⟨w.heap.size, 2, none⟩ (.int .i64 y.tn)).setCell ⟨w.heap.size, 3, none⟩ (.int .i64 y.op)).setCell ⟨w.heap.size, 4, none⟩ (.int .i64 y.en)).setCell ⟨w.heap.size, 5, none⟩ (.int .i64 y.ra)).setCell ⟨w.heap.size, 6, none⟩ (.int .i64 y.ow)).setCell ⟨w.heap.size, 7, none⟩ (.int .i64 y.ro)) := ((((((((hB2.setCell (p := ⟨w.heap.size, 0, none⟩) hle0 (.int .i64 y.id)).setCell (p := ⟨w.heap.size, 1, none⟩) hle0 (.int .i64 y.fr)).setCell (p := ⟨w.heap.size, 2, none⟩) hle0 (.int .i64 y.tn)).setCell (p := ⟨w.heap.size, 3, none⟩) hle0 (.int .i64 y.op)).setCell (p := ⟨w.heap.size, 4, none⟩) hle0 (.int .i64 y.en)).setCell (p := ⟨w.heap.size, 5, none⟩) hle0 (.int .i64 y.ra)).setCell (p := ⟨w.heap.size, 6, none⟩) hle0 (.int .i64 y.ow)).setCell (p := ⟨w.heap.size, 7, none⟩) hle0 (.int .i64 y.ro))
        have hlF := hF.lt
        generalize ((((((((wx.setCell ⟨w.heap.size, 0, none⟩ (.int .i64 y.id)).setCell ⟨w.heap.size, 1, none⟩ (.int .i64 y.fr)).setCell ⟨w.heap.size, 2, none⟩ (.int .i64 y.tn)).setCell ⟨w.heap.size, 3, none⟩ (.int .i64 y.op)).setCell ⟨w.heap.size, 4, none⟩ (.int .i64 y.en)).setCell ⟨w.heap.size, 5, none⟩ (.int .i64 y.ra)).setCell ⟨w.heap.size, 6, none⟩ (.int .i64 y.ow)).setCell ⟨w.heap.size, 7, none⟩ (.int .i64 y.ro)) = wf at *
        have r0 : wf.cell? ⟨w.heap.size, 0, none⟩ = some (.int .i64 y.id) := hF.cell 0
        have r1 : wf.cell? ⟨w.heap.size, 1, none⟩ = some (.int .i64 y.fr) := hF.cell 1
        have r2 : wf.cell? ⟨w.heap.size, 2, none⟩ = some (.int .i64 y.tn) := hF.cell 2
        have r3 : wf.cell? ⟨w.heap.size, 3, none⟩ = some (.int .i64 y.op) := hF.cell 3
        have r4 : wf.cell? ⟨w.heap.size, 4, none⟩ = some (.int .i64 y.en) := hF.cell 4
        have r5 : wf.cell? ⟨w.heap.size, 5, none⟩ = some (.int .i64 y.ra) := hF.cell 5
        have r6 : wf.cell? ⟨w.heap.size, 6, none⟩ = some (.int .i64 y.ow) := hF.cell 6
        have r7 : wf.cell? ⟨w.heap.size, 7, none⟩ = some (.int .i64 y.ro) := hF.cell 7
        refine bodyPost_ret (v := .tuple #[.agg #[.int .i64 y.id, .int .i64 y.fr, .int .i64 y.tn, .int .i64 y.op, .int .i64 y.en, .int .i64 y.ra, .int .i64 y.ow, .int .i64 y.ro], .bool true]) (by simp [results, Try.results14, go_sem, r0, r1, r2, r3, r4, r5, r6, r7, hlF]) rfl ?_
        exact ⟨rfl, hWf⟩
      · have hq : (y.id == id) = false := beq_eq_false_iff_ne.2 he
        have HN2 : Hid (∀ j, j < i + 1 → (gEd d j).id ≠ id) := fun j hj => by
          by_cases e : j = i
          · subst e; rw [HY.out]; exact he
          · exact HN.out j (by omega)
        have HX := Lib.hid hX
        clear he hX
        go_wp2_with fail
        go_roundw
        case rel => exact ⟨i + 1, by go_num, by omega, HN2, hL2, HX, hB2⟩
        case measure => simp [intOf]; omega
    · have hf := findE_none (l := d) (id := id) (fun j hj => HN.out j (by rw [HD.out] at hj; omega))
      have hx0 : x = zeroEd := by rw [← HXX.out, hf]; rfl
      have hbt : b = false := by rw [← HBX.out, hf]; rfl
      subst hbt
      subst hx0
      have hX := HX.out
      have HXB := Lib.hid hX
      have r0 : wr.cell? ⟨w.heap.size, 0, none⟩ = some (.int .i64 0) := hX.cell 0
      have f_0 := hX.free 0
      have r1 : wr.cell? ⟨w.heap.size, 1, none⟩ = some (.int .i64 0) := hX.cell 1
      have f_1 := hX.free 1
      have r2 : wr.cell? ⟨w.heap.size, 2, none⟩ = some (.int .i64 0) := hX.cell 2
      have f_2 := hX.free 2
      have r3 : wr.cell? ⟨w.heap.size, 3, none⟩ = some (.int .i64 0) := hX.cell 3
      have f_3 := hX.free 3
      have r4 : wr.cell? ⟨w.heap.size, 4, none⟩ = some (.int .i64 0) := hX.cell 4
      have f_4 := hX.free 4
      have r5 : wr.cell? ⟨w.heap.size, 5, none⟩ = some (.int .i64 0) := hX.cell 5
      have f_5 := hX.free 5
      have r6 : wr.cell? ⟨w.heap.size, 6, none⟩ = some (.int .i64 0) := hX.cell 6
      have f_6 := hX.free 6
      have r7 : wr.cell? ⟨w.heap.size, 7, none⟩ = some (.int .i64 0) := hX.cell 7
      have f_7 := hX.free 7
      have lt_x := hX.lt
      clear hX hf HN HX
      go_wp2
      have hX := HXB.out
      clear r0 r1 r2 r3 r4 r5 r6 r7
      have hF : Blok ((((((((wr.setCell ⟨w.heap.size, 0, none⟩ (.int .i64 0)).setCell ⟨w.heap.size, 1, none⟩ (.int .i64 0)).setCell ⟨w.heap.size, 2, none⟩ (.int .i64 0)).setCell ⟨w.heap.size, 3, none⟩ (.int .i64 0)).setCell ⟨w.heap.size, 4, none⟩ (.int .i64 0)).setCell ⟨w.heap.size, 5, none⟩ (.int .i64 0)).setCell ⟨w.heap.size, 6, none⟩ (.int .i64 0)).setCell ⟨w.heap.size, 7, none⟩ (.int .i64 0)) w.heap.size 34 #[.int .i64 0, .int .i64 0, .int .i64 0, .int .i64 0, .int .i64 0, .int .i64 0, .int .i64 0, .int .i64 0] := by have h := ((((((((hX.set_ 0 (.int .i64 0)).set_ 1 (.int .i64 0)).set_ 2 (.int .i64 0)).set_ 3 (.int .i64 0)).set_ 4 (.int .i64 0)).set_ 5 (.int .i64 0)).set_ 6 (.int .i64 0)).set_ 7 (.int .i64 0)); simpa using h
      have hle0 : w.heap.size ≤ w.heap.size := by first | exact Nat.le_refl _ | omega
      have hWf : Below w.heap.size w ((((((((wr.setCell ⟨w.heap.size, 0, none⟩ (.int .i64 0)).setCell ⟨w.heap.size, 1, none⟩ (.int .i64 0)).setCell ⟨w.heap.size, 2, none⟩ (.int .i64 0)).setCell ⟨w.heap.size, 3, none⟩ (.int .i64 0)).setCell ⟨w.heap.size, 4, none⟩ (.int .i64 0)).setCell ⟨w.heap.size, 5, none⟩ (.int .i64 0)).setCell ⟨w.heap.size, 6, none⟩ (.int .i64 0)).setCell ⟨w.heap.size, 7, none⟩ (.int .i64 0)) := ((((((((hB.setCell (p := ⟨w.heap.size, 0, none⟩) hle0 (.int .i64 0)).setCell (p := ⟨w.heap.size, 1, none⟩) hle0 (.int .i64 0)).setCell (p := ⟨w.heap.size, 2, none⟩) hle0 (.int .i64 0)).setCell (p := ⟨w.heap.size, 3, none⟩) hle0 (.int .i64 0)).setCell (p := ⟨w.heap.size, 4, none⟩) hle0 (.int .i64 0)).setCell (p := ⟨w.heap.size, 5, none⟩) hle0 (.int .i64 0)).setCell (p := ⟨w.heap.size, 6, none⟩) hle0 (.int .i64 0)).setCell (p := ⟨w.heap.size, 7, none⟩) hle0 (.int .i64 0))
      have hlF := hF.lt
      generalize ((((((((wr.setCell ⟨w.heap.size, 0, none⟩ (.int .i64 0)).setCell ⟨w.heap.size, 1, none⟩ (.int .i64 0)).setCell ⟨w.heap.size, 2, none⟩ (.int .i64 0)).setCell ⟨w.heap.size, 3, none⟩ (.int .i64 0)).setCell ⟨w.heap.size, 4, none⟩ (.int .i64 0)).setCell ⟨w.heap.size, 5, none⟩ (.int .i64 0)).setCell ⟨w.heap.size, 6, none⟩ (.int .i64 0)).setCell ⟨w.heap.size, 7, none⟩ (.int .i64 0)) = wf at *
      have r0 : wf.cell? ⟨w.heap.size, 0, none⟩ = some (.int .i64 0) := hF.cell 0
      have r1 : wf.cell? ⟨w.heap.size, 1, none⟩ = some (.int .i64 0) := hF.cell 1
      have r2 : wf.cell? ⟨w.heap.size, 2, none⟩ = some (.int .i64 0) := hF.cell 2
      have r3 : wf.cell? ⟨w.heap.size, 3, none⟩ = some (.int .i64 0) := hF.cell 3
      have r4 : wf.cell? ⟨w.heap.size, 4, none⟩ = some (.int .i64 0) := hF.cell 4
      have r5 : wf.cell? ⟨w.heap.size, 5, none⟩ = some (.int .i64 0) := hF.cell 5
      have r6 : wf.cell? ⟨w.heap.size, 6, none⟩ = some (.int .i64 0) := hF.cell 6
      have r7 : wf.cell? ⟨w.heap.size, 7, none⟩ = some (.int .i64 0) := hF.cell 7
      refine bodyPost_ret (v := .tuple #[.agg #[.int .i64 0, .int .i64 0, .int .i64 0, .int .i64 0, .int .i64 0, .int .i64 0, .int .i64 0, .int .i64 0], .bool false]) (by simp [results, Try.results14, go_sem, r0, r1, r2, r3, r4, r5, r6, r7, hlF]) rfl ?_
      exact ⟨rfl, hWf⟩
set_option maxHeartbeats 4000000 in
set_option maxRecDepth 100000 in
theorem vfrom_any (A : Option Addr) (n c : Nat) (d : List Ed) (q : Int) (w : World) (hd : d.length = n) (hn : n ≤ 1000000) (h : Sl w w.heap.size 8 A n c (flatEd d)) (m : List Ed) (hm : d.filter (fun e => e.fr == q) = m) :
    Calls Try.prog 21 #[.slice A n c, .int .i64 q] w fun e w' => ∃ v, e = .returned v ∧ w'.ownsRow w.heap.size 34 8 v m.length (flatEd m) ∧ Below w.heap.size w w' := by
  obtain ⟨i0, hi0, hz0, hz1, hz2⟩ := info_parts infoEd
  have HD := Lib.hid hd
  have HM := Lib.hid hm
  have HL := Lib.hid h
  clear hd h hm
  go_enter Try.func21, Try.ntmps21
  go_wp2
  go_loopw [5, 10] (fun ev iv wr => ∃ (es : List Ed) (k i : Nat), iv = .int .i64 i ∧ i ≤ n ∧ k ≤ i ∧ Hid (es.length = k) ∧ Hid ((d.take i).filter (fun e => e.fr == q) = es) ∧ wr.ownsRow w.heap.size 34 8 ev k (flatEd es) ∧ Below w.heap.size w wr ∧ Hid (Sl wr w.heap.size 8 A n c (flatEd d))) (fun ev iv _ => n - (intOf iv).toNat)
  case atStart => exact ⟨[], 0, 0, rfl, by omega, by omega, rfl, by simp [Hid], World.ownsRow_nil _ _ _ _, Below.refl _ _, HL.out⟩
  case round =>
    clear HL
    obtain ⟨es, k, i, rfl, hi, hk, HE, HF, hown, hB, HL⟩ := hrel
    have hs := hB.size
    obtain ⟨Ae, ce, rfl⟩ := slice_of_own hown
    by_cases hin : i < n
    · obtain ⟨ad, rfl, hab, c0, c1, c2, c3, c4, c5, c6, c7⟩ := HL.out.lst.atEd HD.out hin
      have hin' : i < d.length := by rw [HD.out]; exact hin
      have hst := take_snocEd hin'
      obtain ⟨x, hx⟩ : ∃ x, gEd d i = x := ⟨_, rfl⟩
      rw [hx] at c0 c1 c2 c3 c4 c5 c6 c7 hst
      have HST := Lib.hid hst
      have hX := Blok.new wr 34 #[.int .i64 x.id, .int .i64 x.fr, .int .i64 x.tn, .int .i64 x.op, .int .i64 x.en, .int .i64 x.ra, .int .i64 x.ow, .int .i64 x.ro]
      have hBa : Below wr.heap.size wr (wr.alloc (.cells #[.int .i64 x.id, .int .i64 x.fr, .int .i64 x.tn, .int .i64 x.op, .int .i64 x.en, .int .i64 x.ra, .int .i64 x.ow, .int .i64 x.ro] 34)) := by (repeat (first | exact Below.refl _ _ | refine Below.alloc ?_ (by first | omega | (simp; done) | (simp; omega)) _ | refine Below.setCell ?_ (by first | omega | (simp; done) | (simp; omega)) _ | refine Below.drew ?_))
      have hB2 := hB.trans (hBa.mono hs)
      have hL2 := Lib.hid (HL.out.below (hBa.mono hs))
      have hown2 := own_below hown hBa
      have hqb : ∀ q, (Value.slice Ae k ce).ownBlock = some q → q < wr.heap.size := fun q hq => (hown.lt q hq).2
      clear hx hst
      go_upto_region 5 with fail
      have HQB := Lib.hid hqb
      have hsa := hBa.size
      clear c0 c1 c2 c3 c4 c5 c6 c7 hBa hB HL hown hqb
      generalize wr.alloc (.cells #[.int .i64 x.id, .int .i64 x.fr, .int .i64 x.tn, .int .i64 x.op, .int .i64 x.en, .int .i64 x.ra, .int .i64 x.ow, .int .i64 x.ro] 34) = wx at *
      generalize wr.heap.size = bb at *
      have x0 : wx.cell? ⟨bb, 0, none⟩ = some (.int .i64 x.id) := hX.cell 0
      have x1 : wx.cell? ⟨bb, 1, none⟩ = some (.int .i64 x.fr) := hX.cell 1
      have x2 : wx.cell? ⟨bb, 2, none⟩ = some (.int .i64 x.tn) := hX.cell 2
      have x3 : wx.cell? ⟨bb, 3, none⟩ = some (.int .i64 x.op) := hX.cell 3
      have x4 : wx.cell? ⟨bb, 4, none⟩ = some (.int .i64 x.en) := hX.cell 4
      have x5 : wx.cell? ⟨bb, 5, none⟩ = some (.int .i64 x.ra) := hX.cell 5
      have x6 : wx.cell? ⟨bb, 6, none⟩ = some (.int .i64 x.ow) := hX.cell 6
      have x7 : wx.cell? ⟨bb, 7, none⟩ = some (.int .i64 x.ro) := hX.cell 7
      have lt_x := hX.lt
      have hsx := hB2.size
      by_cases hfr : x.fr = q
      · have hF2 : (d.take (i + 1)).filter (fun e => e.fr == q) = es ++ [x] := by
          rw [HST.out, List.filter_append, HF.out]; simp [hfr]
        have HF2 := Lib.hid hF2
        have g1 : (x.fr == q) = true := by simp [hfr]
        clear hF2 hfr
        go_wp2_with (first | (at_builtin; refine wpList_append_own _ rfl _ _ 29 rfl w.heap.size 34 i0 _ 8 64 Try.underlying29 hi0 hz0 hz1 hz2 rfl (by decide) _ _ _ rfl (hown2.alloc _) ⟨wx.heap.size, 0, none⟩ 1 1 [.int .i64 x.id, .int .i64 x.fr, .int .i64 x.tn, .int .i64 x.op, .int .i64 x.en, .int .i64 x.ra, .int .i64 x.ow, .int .i64 x.ro] rfl rfl (by exact lit_cells wx #[.int .i64 x.id, .int .i64 x.fr, .int .i64 x.tn, .int .i64 x.op, .int .i64 x.en, .int .i64 x.ra, .int .i64 x.ow, .int .i64 x.ro] _ _ rfl) (by simp [Value.oneCell']) (by unfold maxLen; omega) (by omega) (by simp; omega) ?_; intro v' w3 hown' hgrow3 hnil3; clear hnil3))
        have hbN : Below w.heap.size w w3 := (hB2.alloc hsx _).grown hgrow3 (by simp; omega) (fun q hq => by have := (hown2.lt q hq).1; omega)
        have hLN := Lib.hid (hL2.out.below (((Below.refl _ _).alloc hsx (.cells #[.int .i64 x.id, .int .i64 x.fr, .int .i64 x.tn, .int .i64 x.op, .int .i64 x.en, .int .i64 x.ra, .int .i64 x.ow, .int .i64 x.ro] 34)).grown hgrow3 (by simp; omega) (fun q hq => by have := (hown2.lt q hq).1; omega)))
        clear hgrow3 x0 x1 x2 x3 x4 x5 x6 x7 lt_x hX
        go_roundw
        case rel => exact ⟨es ++ [x], k + 1, i + 1, by go_num, by omega, by omega, by simp [Hid, HE.out], HF2, (by rw [flatEd_append, flatEd_one_]; exact hown'), hbN, hLN⟩
        case measure => simp [intOf]; omega
      · have hF2 : (d.take (i + 1)).filter (fun e => e.fr == q) = es := by
          rw [HST.out, List.filter_append, HF.out]; simp [hfr]
        have HF2 := Lib.hid hF2
        have g1 : (x.fr == q) = false := by simp [hfr]
        clear hF2 hfr
        go_wp2_with fail
        go_roundw
        case rel => exact ⟨es, k, i + 1, by go_num, by omega, by omega, HE, HF2, hown2, hB2, hL2⟩
        case measure => simp [intOf]; omega
    · obtain rfl : i = n := by omega
      have hme : m = es := by
        rw [← HM.out, ← HF.out, List.take_of_length_le (by rw [HD.out]; omega)]
      subst hme
      go_wp2_with fail
      go_ret
      exact ⟨_, rfl, by rw [HE.out]; exact hown, hB⟩
set_option maxRecDepth 100000 in
theorem vsame_any (A A' : Option Addr) (n c n' c' : Nat) (d d' : List Ed) (w : World) (hd : d.length = n) (hd' : d'.length = n') (hn : n ≤ 1000000) (hn' : n' ≤ 1000000) (h : Sl w w.heap.size 8 A n c (flatEd d)) (h' : Sl w w.heap.size 8 A' n' c' (flatEd d')) (b : Bool) (hb : decide (d = d') = b) :
    Calls Try.prog 23 #[.slice A n c, .slice A' n' c'] w fun e w' => e = .returned (.bool b) ∧ Below w.heap.size w w' := by
  have HE := Lib.hid (hb ▸ equalEd A A' n c n' c' d d' w hd hd' hn hn' h h')
  clear hd hd' h h' hb
  go_enter Try.func23, Try.ntmps23
  go_wp2_with fail
  refine HE.out.mono ?_
  rintro e w3 ⟨rfl, hb⟩
  go_wp2_with fail
  go_ret
  exact ⟨rfl, hb⟩
end Go.Proofs.Ytfdphpmcgidmiaa
