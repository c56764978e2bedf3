/- What Owlt answers of a right table: the one range that covers. No condition. -/
import Derived.Test.YtglhembdlipccaaRangesTwice
namespace Go.Proofs.Ytglhembdlipccaa
open Go.ChangeShapes Go.WideShapes Go.ChangeAt Go.RowKit Go.Sort
set_option linter.unusedSimpArgs false
set_option linter.unusedVariables false
def befR (a b : Rg) : Prop := ltR a b ∧ (a.fr = b.fr → a.tn = b.tn → a.en ≤ b.st)
def covR (cf ct cs ce : Int) (x : Rg) : Bool := decide (x.fr = cf ∧ x.tn = ct ∧ x.st ≤ cs ∧ ce ≤ x.en)
/-- In order, none longer than nothing. -/
structure SortR (d : List Rg) : Prop where
  ord : d.Pairwise befR
  span : ∀ x ∈ d, x.st < x.en ∧ 0 ≤ x.ow
theorem SortR.filter {d : List Rg} (h : SortR d) (p : Rg → Bool) : SortR (d.filter p) :=
  ⟨h.ord.filter p, fun x hx => h.span x (List.mem_filter.1 hx).1⟩
theorem rightB_okR {d : List Rg} (h : rightB d = true) {i : Nat} (hi : i < d.length) : okR (gRg d i) = true := by
  have := (rightB_true.1 h).2 i hi
  unfold stepB at this
  simp at this
  exact this.1
theorem rightB_next {d : List Rg} (h : rightB d = true) {i : Nat} (hi : i + 1 < d.length) : befR (gRg d i) (gRg d (i + 1)) := by
  have h0 := (rightB_true.1 h).2 (i + 1) hi
  have h1 := okR_span (rightB_okR h hi)
  have h2 := okR_span (rightB_okR h (i := i) (by omega))
  unfold stepB at h0
  simp [overR] at h0
  obtain ⟨_, h3, h4⟩ := h0
  rcases cmpR_spec (gRg d i) (gRg d (i + 1)) with ⟨hl, e⟩ | ⟨_, _, _, e⟩ | ⟨_, e⟩
  · refine ⟨hl, fun e1 e2 => ?_⟩
    unfold ltR at hl
    omega
  · omega
  · omega
theorem befR_trans {a b c : Rg} (h1 : befR a b) (h2 : befR b c) (hb : b.st < b.en) : befR a c := by
  obtain ⟨l1, r1⟩ := h1
  obtain ⟨l2, r2⟩ := h2
  unfold ltR at l1 l2
  refine ⟨by unfold ltR; omega, fun e1 e2 => ?_⟩
  have := r1 (by omega) (by omega)
  have := r2 (by omega) (by omega)
  omega
theorem rightB_far {d : List Rg} (h : rightB d = true) {i : Nat} : ∀ k, i + 1 + k < d.length → befR (gRg d i) (gRg d (i + 1 + k))
  | 0, hk => rightB_next h hk
  | k + 1, hk => befR_trans (rightB_far h k (by omega)) (rightB_next h (i := i + 1 + k) (by omega)) (okR_span (rightB_okR h (by omega))).1
theorem gRg_elem {d : List Rg} {j : Nat} (h : j < d.length) : gRg d j = d[j] := by
  unfold gRg
  rw [List.getD_eq_getElem?_getD, List.getElem?_eq_getElem h]
  rfl
theorem sort_of_right {d : List Rg} (h : rightB d = true) : SortR d := by
  refine ⟨?_, fun x hx => ?_⟩
  · rw [List.pairwise_iff_getElem]
    intro i j hi hj hij
    have := rightB_far h (i := i) (j - i - 1) (by omega)
    rw [show i + 1 + (j - i - 1) = j from by omega] at this
    rw [gRg_elem hi, gRg_elem hj] at this
    exact this
  · obtain ⟨j, hj, rfl⟩ := mem_gRg hx
    exact ⟨(okR_span (rightB_okR h hj)).1, (okR_span (rightB_okR h hj)).2.1⟩
theorem SortR.at_ {d : List Rg} (h : SortR d) {i j : Nat} (hij : i < j) (hj : j < d.length) : befR (gRg d i) (gRg d j) := by
  rw [gRg_elem hj, gRg_elem (by omega)]
  exact List.pairwise_iff_getElem.1 h.ord i j (by omega) hj hij
theorem SortR.sp {d : List Rg} (h : SortR d) {j : Nat} (hj : j < d.length) : (gRg d j).st < (gRg d j).en ∧ 0 ≤ (gRg d j).ow := h.span _ (gRg_mem hj)
theorem waysI_spec (a : Rg) (cf ct : Int) : ((a.fr < cf ∨ a.fr = cf ∧ a.tn < ct) ∧ waysI a ⟨cf, ct, 0, 0, 0⟩ = -1) ∨ (a.fr = cf ∧ a.tn = ct ∧ waysI a ⟨cf, ct, 0, 0, 0⟩ = 0) ∨ ((cf < a.fr ∨ a.fr = cf ∧ ct < a.tn) ∧ waysI a ⟨cf, ct, 0, 0, 0⟩ = 1) := by
  unfold waysI
  rcases cmpI_spec a.fr cf with ⟨h1, e1⟩ | ⟨h1, e1⟩ | ⟨h1, e1⟩ <;> rcases cmpI_spec a.tn ct with ⟨h2, e2⟩ | ⟨h2, e2⟩ | ⟨h2, e2⟩ <;>
    simp only [e1, e2, orF] <;> simp <;> omega
theorem passP_iff {d : List Rg} {cf ct ce : Int} {i : Nat} : passP d cf ct ce i = true ↔ (cf < (gRg d i).fr ∨ (gRg d i).fr = cf ∧ ct < (gRg d i).tn) ∨ ((gRg d i).fr = cf ∧ (gRg d i).tn = ct ∧ ce ≤ (gRg d i).en) := by
  unfold passP
  rcases waysI_spec (gRg d i) cf ct with ⟨h1, e1⟩ | ⟨h1, h2, e1⟩ | ⟨h1, e1⟩ <;> rw [e1] <;> simp <;> omega
theorem passP_up {d : List Rg} (h : SortR d) {cf ct ce : Int} {i j : Nat} (hij : i ≤ j) (hj : j < d.length) (hp : passP d cf ct ce i = true) : passP d cf ct ce j = true := by
  rcases Nat.lt_or_eq_of_le hij with hij | rfl
  · rw [passP_iff] at hp ⊢
    obtain ⟨h1, h2⟩ := h.at_ hij hj
    have h3 := h.sp hj
    unfold ltR at h1
    by_cases e1 : (gRg d i).fr = (gRg d j).fr
    · by_cases e2 : (gRg d i).tn = (gRg d j).tn
      · have := h2 e1 e2
        omega
      · omega
    · omega
  · exact hp
/-- What a table of ranges tells of a contact: whom it covers, or none. -/
def Tells (d : List Rg) (cf ct cs ce o : Int) (b : Bool) : Prop :=
  (b = true ∧ ∃ x ∈ d, covR cf ct cs ce x = true ∧ o = x.ow) ∨ (b = false ∧ o = 0 ∧ ∀ x ∈ d, covR cf ct cs ce x = false)
theorem tells_of {d : List Rg} (h : SortR d) {cf ct cs ce : Int} {n i : Nat} {o : Int} {b : Bool} (hd : d.length = n) (hc : cs < ce) (ha : AskAt d cf ct ce n i) (ho : owR d cf ct cs n i = (o, b)) : Tells d cf ct cs ce o b := by
  obtain ⟨hi, h1, h2⟩ := ha
  unfold owR at ho
  by_cases hg : i = n ∨ waysI (gRg d i) ⟨cf, ct, 0, 0, 0⟩ ≠ 0 ∨ cs < (gRg d i).st
  · rw [if_pos hg] at ho
    injection ho with e1 e2
    refine .inr ⟨e2.symm, e1.symm, fun x hx => ?_⟩
    obtain ⟨j, hj, rfl⟩ := mem_gRg hx
    cases hcv : covR cf ct cs ce (gRg d j)
    · rfl
    · exfalso
      unfold covR at hcv
      rw [decide_eq_true_eq] at hcv
      obtain ⟨c1, c2, c3, c4⟩ := hcv
      have hpj : passP d cf ct ce j = true := passP_iff.2 (.inr ⟨c1, c2, c4⟩)
      have hij : i ≤ j := by
        rcases h1 with h1 | h1
        · omega
        · by_cases hlt : j < i
          · rw [passP_up h (by omega : j ≤ i - 1) (by omega) hpj] at h1
            cases h1
          · omega
      have hin : i < n := by omega
      have hpi : passP d cf ct ce i = true := by
        rcases h2 with h2 | h2
        · omega
        · exact h2
      rw [passP_iff] at hpi
      rcases Nat.lt_or_eq_of_le hij with hij | rfl
      · obtain ⟨b1, b2⟩ := h.at_ hij hj
        unfold ltR at b1
        by_cases e1 : (gRg d i).fr = (gRg d j).fr
        · by_cases e2 : (gRg d i).tn = (gRg d j).tn
          · have := b2 e1 e2
            omega
          · omega
        · omega
      · rcases waysI_spec (gRg d i) cf ct with ⟨g1, e1⟩ | ⟨g1, g2, e1⟩ | ⟨g1, e1⟩ <;> rw [e1] at hg <;> omega
  · rw [if_neg hg] at ho
    injection ho with e1 e2
    have hin : i < n := by omega
    have hw : waysI (gRg d i) ⟨cf, ct, 0, 0, 0⟩ = 0 := by
      by_cases e : waysI (gRg d i) ⟨cf, ct, 0, 0, 0⟩ = 0
      · exact e
      · exact absurd (.inr (.inl e)) hg
    have hpi : passP d cf ct ce i = true := by
      rcases h2 with h2 | h2
      · omega
      · exact h2
    rw [passP_iff] at hpi
    refine .inl ⟨e2.symm, gRg d i, gRg_mem (by omega), ?_, e1.symm⟩
    unfold covR
    rw [decide_eq_true_eq]
    rcases waysI_spec (gRg d i) cf ct with ⟨g1, e1⟩ | ⟨g1, g2, e1⟩ | ⟨g1, e1⟩ <;> omega
/-- One at most covers. -/
theorem cov_one {d : List Rg} (h : SortR d) {cf ct cs ce : Int} (hc : cs < ce) {i j : Nat} (hi : i < d.length) (hj : j < d.length) (h1 : covR cf ct cs ce (gRg d i) = true) (h2 : covR cf ct cs ce (gRg d j) = true) : i = j := by
  unfold covR at h1 h2
  rw [decide_eq_true_eq] at h1 h2
  rcases Nat.lt_trichotomy i j with hl | e | hl
  · have := (h.at_ hl hj).2 (by omega) (by omega)
    omega
  · exact e
  · have := (h.at_ hl hi).2 (by omega) (by omega)
    omega
theorem tells_same {d e : List Rg} (h : SortR d) {cf ct cs ce o o' : Int} {b b' : Bool} (hc : cs < ce) (hsub : ∀ x ∈ e, x ∈ d) (hcov : ∀ x ∈ d, covR cf ct cs ce x = true → x ∈ e) (h1 : Tells d cf ct cs ce o b) (h2 : Tells e cf ct cs ce o' b') : o = o' ∧ b = b' := by
  rcases h1 with ⟨rfl, x, hx, cx, rfl⟩ | ⟨rfl, rfl, hn⟩ <;> rcases h2 with ⟨rfl, y, hy, cy, rfl⟩ | ⟨rfl, rfl, hn'⟩
  · obtain ⟨i, hi, rfl⟩ := mem_gRg hx
    obtain ⟨j, hj, rfl⟩ := mem_gRg (hsub y hy)
    obtain rfl := cov_one h hc hi hj cx cy
    exact ⟨rfl, rfl⟩
  · rw [hn' x (hcov x hx cx)] at cx; cases cx
  · rw [hn y (hsub y hy)] at cy; cases cy
  · exact ⟨rfl, rfl⟩
end Go.Proofs.Ytglhembdlipccaa
