/- What order.Sort hands back, as a list: in order, of each place the first. Plain facts. No condition. -/
import Derived.Test.YtbhhkaaidhapbaaOrder11
import Derived.Test.YtbhhkaaidhapbaaSrtT
import Derived.Test.YtbhhkaaidhapbaaGQ3
namespace Go.Proofs.Ytbhhkaaidhapbaa
open Go.ChangeShapes Go.WideShapes Go.ChangeAt Go.RowKit Go.Sort Go.Shelf
set_option linter.unusedSimpArgs false
set_option linter.unusedVariables false
/-- The first of its place. -/
def Fst (l : List Rtp) (x : Rtp) : Prop := (l.filter fun y => decide (cT x y = 0)).head? = some x
theorem Fst.mem {l : List Rtp} {x : Rtp} (h : Fst l x) : x ∈ l := (List.mem_filter.1 (List.mem_of_mem_head? h)).1
theorem cT_eqv {a b c : Rtp} (h : cT a b = 0) : cT a c = cT b c := by
  have h1 := cT_anti a b
  have h2 := cT_anti a c
  have h3 := cT_anti b c
  rw [cT_key] at *
  have := cmpL_zero h
  rw [cT_key, this]
theorem cT_range (a b : Rtp) : -1 ≤ cT a b ∧ cT a b ≤ 1 := by rw [cT_key]; exact cmpL_range _ _
theorem cT_lt {a b : Rtp} (h : cT a b < 0) : cT a b = -1 := by have := cT_range a b; omega
theorem filter_eqv {x y : Rtp} (h : cT x y = 0) (l : List Rtp) : (l.filter fun z => decide (cT x z = 0)) = l.filter fun z => decide (cT y z = 0) := by
  congr 1
  funext z
  rw [cT_eqv h]
/-- Each has a first of its place. -/
theorem fst_has {l : List Rtp} {x : Rtp} (h : x ∈ l) : ∃ y, Fst l y ∧ cT x y = 0 := by
  cases hf : l.filter fun y => decide (cT x y = 0) with
  | nil =>
    have : x ∈ l.filter fun y => decide (cT x y = 0) := List.mem_filter.2 ⟨h, by simp [cT_self]⟩
    rw [hf] at this
    cases this
  | cons y r =>
    have hy : y ∈ l.filter fun y => decide (cT x y = 0) := by rw [hf]; exact List.mem_cons_self ..
    have h0 : cT x y = 0 := of_decide_eq_true (List.mem_filter.1 hy).2
    refine ⟨y, ?_, h0⟩
    unfold Fst
    rw [← filter_eqv h0, hf]
    rfl
theorem fst_app {l : List Rtp} {t x : Rtp} : Fst (l ++ [t]) x ↔ Fst l x ∨ (x = t ∧ ∀ y ∈ l, cT y t ≠ 0) := by
  unfold Fst
  rw [List.filter_append]
  cases hf : l.filter fun y => decide (cT x y = 0) with
  | nil =>
    have hno : ∀ y ∈ l, cT x y ≠ 0 := fun y hy h0 => by
      have : y ∈ l.filter fun y => decide (cT x y = 0) := List.mem_filter.2 ⟨hy, by simp [h0]⟩
      rw [hf] at this
      cases this
    constructor
    · intro h
      right
      have hx : x ∈ ([t].filter fun y => decide (cT x y = 0)) := List.mem_of_mem_head? (by simpa using h)
      have hxt : x = t := by simpa using (List.mem_filter.1 hx).1
      subst hxt
      exact ⟨rfl, fun y hy h0 => hno y hy (by have := cT_anti x y; omega)⟩
    · rintro (h | ⟨rfl, h⟩)
      · simp at h
      · simp [cT_self]
  | cons y r =>
    constructor
    · intro h
      left
      simpa using h
    · rintro (h | ⟨rfl, h⟩)
      · simpa using h
      · have hy : y ∈ l.filter fun y => decide (cT x y = 0) := by rw [hf]; exact List.mem_cons_self ..
        have h0 : cT x y = 0 := of_decide_eq_true (List.mem_filter.1 hy).2
        exact absurd (by have := cT_anti x y; omega) (h y (List.mem_filter.1 hy).1)
theorem fst_nil (x : Rtp) : ¬ Fst [] x := by unfold Fst; simp
/-- A row in order, with those just that are first of their place: there is but one. -/
structure Ds (l r : List Rtp) : Prop where
  srt : SrtT r
  mem : ∀ x, x ∈ r ↔ Fst l x
theorem Ds.one {l r r' : List Rtp} (h : Ds l r) (h' : Ds l r') : r = r' := srtT_ext h.srt h'.srt fun x => (h.mem x).trans (h'.mem x).symm
theorem insT_mem' {x : Rtp} : ∀ {l : List Rtp}, SrtT l → ∀ {z : Rtp}, z ∈ insT x l ↔ z ∈ l ∨ (z = x ∧ ∀ y ∈ l, cT y x ≠ 0) := by
  intro l hs z
  constructor
  · intro hz
    by_cases hl : z ∈ l
    · exact .inl hl
    · have hzx : z = x := (insT_mem hz).resolve_right hl
      subst hzx
      refine .inr ⟨rfl, fun y hy h0 => ?_⟩
      have h1 := insT_keep (x := z) hy
      have h2 := insT_srt (x := z) hs
      obtain ⟨i, hi, e1⟩ := List.getElem_of_mem hz
      obtain ⟨j, hj, e2⟩ := List.getElem_of_mem h1
      rcases Nat.lt_trichotomy i j with h | h | h
      · have := srtT_ne h2 hi hj h
        rw [e1, e2] at this
        have := cT_anti z y
        omega
      · subst h
        rw [e1] at e2
        exact hl (e2 ▸ hy)
      · have := srtT_ne h2 hj hi h
        rw [e1, e2] at this
        omega
  · rintro (h | ⟨rfl, h⟩)
    · exact insT_keep h
    · rcases insT_has z l with h1 | ⟨y, hy, h0⟩
      · exact h1
      · exact absurd (by have := cT_anti z y; omega) (h y hy)
/-- One more behind. -/
theorem Ds.snoc {l r : List Rtp} (h : Ds l r) (t : Rtp) : Ds (l ++ [t]) (insT t r) := by
  refine ⟨insT_srt h.srt, fun x => ?_⟩
  rw [insT_mem' h.srt, fst_app, h.mem]
  have : (∀ y ∈ r, cT y t ≠ 0) ↔ ∀ y ∈ l, cT y t ≠ 0 := by
    constructor
    · intro hr y hy h0
      obtain ⟨z, hz, h1⟩ := fst_has hy
      refine hr z ((h.mem z).2 hz) ?_
      rw [← cT_eqv h1]; exact h0
    · intro hl y hy
      exact hl y ((h.mem y).1 hy).mem
  rw [this]
theorem Ds.nil : Ds [] [] := ⟨List.Pairwise.nil, fun x => by simp [fst_nil]⟩
theorem Ds.self {r : List Rtp} (h : SrtT r) : Ds r r := by
  refine ⟨h, fun x => ⟨fun hx => ?_, fun hx => hx.mem⟩⟩
  obtain ⟨y, hy, h0⟩ := fst_has hx
  have hy' := hy.mem
  have : x = y := by
    obtain ⟨i, hi, e1⟩ := List.getElem_of_mem hx
    obtain ⟨j, hj, e2⟩ := List.getElem_of_mem hy'
    rcases Nat.lt_trichotomy i j with h3 | h3 | h3
    · have := srtT_ne h hi hj h3
      rw [e1, e2] at this; omega
    · subst h3; rw [← e1, ← e2]
    · have := srtT_ne h hj hi h3
      rw [e1, e2] at this
      have := cT_anti x y
      omega
  rw [this]; exact hy
theorem swoT : Swo (ltOf cfT) := swo_cmpR (fun x => x.2) (fun x => x.1) cfT fun _ _ => rfl
theorem alk_cT (x y : Rtp) : alk (ltOf cfT) x y = decide (cT x y = 0) := by
  have h1 := cT_anti x y
  unfold alk ltOf
  show (!decide (cT x y < 0) && !decide (cT y x < 0)) = _
  by_cases h0 : cT x y = 0
  · rw [decide_eq_true h0, decide_eq_false (by omega), decide_eq_false (by omega)]; rfl
  · rw [decide_eq_false h0]
    by_cases hl : cT x y < 0
    · rw [decide_eq_true hl]; rfl
    · rw [decide_eq_true (show cT y x < 0 by omega)]; simp
theorem seg_all {α : Type} [Inhabited α] (d : Array α) : seg d 0 d.size = d.toList := by
  refine List.ext_getElem (by rw [seg_len]; simp) fun i h1 h2 => ?_
  rw [seg_get _ _ _ _ h1, Nat.zero_add]
  rw [seg_len] at h1
  simp [h1]
theorem stab_sortT (l : List Rtp) : Stab (ltOf cfT) l (sortT l) := by
  have h := (ins_good swoT l.toArray (a := 0) (b := l.length) (by omega) (by simp)).2.2
  have hz := (ins_good swoT l.toArray (a := 0) (b := l.length) (by omega) (by simp)).1
  unfold Good at h
  have e1 : seg l.toArray 0 (l.length - 0) = l := by
    have := seg_all l.toArray
    rw [List.size_toArray] at this
    rw [Nat.sub_zero, this]
  have e2 : seg (insertionSort (ltOf cfT) l.toArray 0 l.length) 0 (l.length - 0) = sortT l := by
    have := seg_all (insertionSort (ltOf cfT) l.toArray 0 l.length)
    rw [hz, List.size_toArray] at this
    rw [Nat.sub_zero, this]
    rfl
  rw [e1, e2] at h
  exact h
theorem fst_stab {l r : List Rtp} (h : Stab (ltOf cfT) l r) (x : Rtp) : Fst r x ↔ Fst l x := by
  have h1 := h.alk x
  unfold Fst
  have e : (fun y => decide (cT x y = 0)) = alk (ltOf cfT) x := by funext y; rw [alk_cT]
  rw [e, h1]
theorem gT_get {l : List Rtp} {k : Nat} (h : k < l.length) : gT l k = l[k] := by
  unfold gT; rw [List.getD_eq_getElem?_getD, List.getElem?_eq_getElem h]; rfl
/-- The first ones of a row in order. -/
theorem kp_ds {r : List Rtp} (h : Ord (ltOf cfT) r) : ∀ k, k ≤ r.length → Ds (r.take k) (kpT r k)
  | 0, _ => by rw [List.take_zero]; exact Ds.nil
  | k + 1, hk => by
    have ih := kp_ds h k (by omega)
    have hkl : k < r.length := by omega
    have htk : r.take (k + 1) = r.take k ++ [gT r k] := by rw [gT_get hkl, List.take_succ_eq_append_getElem hkl]
    have hle : ∀ {i j : Nat} (hi : i < r.length) (hj : j < r.length), i < j → cT r[i] r[j] ≤ 0 := fun {i j} hi hj hij => by
      have h1 : decide (cT r[j] r[i] < 0) = false := List.pairwise_iff_getElem.1 h i j hi hj hij
      have h2 := of_decide_eq_false h1
      have := cT_anti r[i] r[j]
      omega
    have hmemle : ∀ y ∈ r.take k, cT y (gT r k) ≤ 0 := fun y hy => by
      obtain ⟨i, hi, e⟩ := List.getElem_of_mem hy
      have hi2 : i < k := by simp at hi; omega
      rw [List.getElem_take] at e
      rw [← e, gT_get hkl]
      exact hle (by omega) hkl hi2
    have hall : (k = 0 ∨ (!decide (cfT (gT r k) (gT r (k - 1)) = 0)) = true) ↔ ∀ y ∈ r.take k, cT y (gT r k) ≠ 0 := by
      constructor
      · rintro (h0 | h0) y hy hz
        · subst h0; simp at hy
        · have h0' : cT (gT r k) (gT r (k - 1)) ≠ 0 := by
            intro e
            have e2 : cfT (gT r k) (gT r (k - 1)) = 0 := e
            rw [e2] at h0
            simp at h0
          obtain ⟨i, hi, e⟩ := List.getElem_of_mem hy
          have hi2 : i < k := by simp at hi; omega
          rw [List.getElem_take] at e
          by_cases hik : i = k - 1
          · subst hik
            rw [← e, ← gT_get (by omega)] at hz
            have := cT_anti (gT r k) (gT r (k - 1))
            omega
          · have h5 := hle (i := i) (j := k - 1) (by omega) (by omega) (by omega)
            have h6 := hle (i := k - 1) (j := k) (by omega) hkl (by omega)
            rw [gT_get hkl] at hz h0'
            rw [gT_get (by omega)] at h0'
            have h7 := cT_anti (r[k]) (r[k - 1])
            rw [← e] at hz
            have h8 := cT_lt_of_le_lt h5 (show cT r[k-1] r[k] < 0 by omega)
            omega
      · intro hy
        by_cases h0 : k = 0
        · exact .inl h0
        · right
          have hm : gT r (k - 1) ∈ r.take k := by
            rw [gT_get (by omega)]
            rw [List.mem_iff_getElem]
            exact ⟨k - 1, by simp; omega, by rw [List.getElem_take]⟩
          have := hy _ hm
          have h7 := cT_anti (gT r k) (gT r (k - 1))
          have h8 : cfT (gT r k) (gT r (k - 1)) ≠ 0 := fun e => this (by have e' : cT (gT r k) (gT r (k - 1)) = 0 := e; omega)
          simp [h8]
    rw [kpT, htk]
    by_cases hc : k = 0 ∨ (!decide (cfT (gT r k) (gT r (k - 1)) = 0)) = true
    · rw [if_pos hc]
      have hno := hall.1 hc
      refine ⟨?_, fun x => ?_⟩
      · refine List.pairwise_append.2 ⟨ih.srt, List.pairwise_singleton .., fun y hy z hz => ?_⟩
        simp at hz; subst hz
        have hy' := ((ih.mem y).1 hy).mem
        have h1 := hmemle y hy'
        have h2 := hno y hy'
        omega
      · rw [List.mem_append, List.mem_singleton, ih.mem, fst_app]
        constructor
        · rintro (h1 | h1)
          · exact .inl h1
          · exact .inr ⟨h1, hno⟩
        · rintro (h1 | h1)
          · exact .inl h1
          · exact .inr h1.1
    · rw [if_neg hc, List.append_nil]
      refine ⟨ih.srt, fun x => ?_⟩
      rw [ih.mem, fst_app]
      constructor
      · exact .inl
      · rintro (h1 | h1)
        · exact h1
        · exact absurd (hall.2 h1.2) hc
/-- What order.Sort hands back. -/
theorem ds_sort (l : List Rtp) : Ds l (compactT (sortT l)) := by
  have h := stab_sortT l
  have h1 := kp_ds h.ord (sortT l).length (Nat.le_refl _)
  rw [List.take_length] at h1
  exact ⟨h1.srt, fun x => (h1.mem x).trans (fst_stab h x)⟩
theorem sort_self {l : List Rtp} (h : SrtT l) : compactT (sortT l) = l := (ds_sort l).one (Ds.self h)
theorem sort_snoc (l : List Rtp) (t : Rtp) : compactT (sortT (l ++ [t])) = insT t (compactT (sortT l)) := (ds_sort _).one ((ds_sort l).snoc t)
theorem insT_take (t : Rtp) : ∀ (m : Nat) (l : List Rtp), (insT t (l.take m)).take m = (insT t l).take m
  | 0, _ => by simp
  | m + 1, [] => by simp
  | m + 1, y :: r => by
    have ih := insT_take t m r
    rw [List.take_succ_cons, insT, insT]
    split
    · rw [List.take_succ_cons, List.take_succ_cons]
      congr 1
      cases m with
      | zero => simp
      | succ m => rw [List.take_succ_cons, List.take_succ_cons, List.take_take]; congr 2; omega
    · split
      · rw [List.take_succ_cons, List.take_succ_cons, List.take_take]; simp
      · rw [List.take_succ_cons, List.take_succ_cons, ih]
theorem srtT_take {l : List Rtp} (h : SrtT l) (m : Nat) : SrtT (l.take m) := List.Pairwise.sublist (List.take_sublist _ _) h
/-- One by one, as many as are kept. -/
theorem ins_step (l : List Rtp) (t : Rtp) (m : Nat) : (compactT (sortT ((compactT (sortT l)).take m ++ [t]))).take m = (compactT (sortT (l ++ [t]))).take m := by
  have hs := (ds_sort l).srt
  rw [sort_snoc, sort_self (srtT_take hs m), sort_snoc, insT_take]
theorem kpT_len (l : List Rt) : ∀ k, (kpT l k).length ≤ k
  | 0 => by simp [kpT]
  | k + 1 => by
    have := kpT_len l k
    rw [kpT, List.length_append]
    split
    · simp; omega
    · simp; omega
theorem sortT_len (l : List Rt) : (sortT l).length = l.length := by
  unfold sortT
  rw [Array.length_toList, size_insertionSort]
  simp
/-- Of each place one. -/
theorem count_one {l s : List Rtp} (h : Ds l s) {t : Rtp} (ht : t ∈ l) : s.countP (fun y => decide (cT y t = 0)) = 1 := by
  obtain ⟨y, hy, h0⟩ := fst_has ht
  have hys := (h.mem y).2 hy
  have hyt : cT y t = 0 := by have := cT_anti t y; omega
  have key : ∀ {s : List Rtp}, SrtT s → y ∈ s → s.countP (fun z => decide (cT z t = 0)) = 1 := by
    intro s
    induction s with
    | nil => intro _ h; cases h
    | cons a r ih =>
      intro hs hm
      obtain ⟨h1, h2⟩ := List.pairwise_cons.1 hs
      rcases List.mem_cons.1 hm with rfl | hm
      · rw [List.countP_cons_of_pos (by simp [hyt])]
        have : r.countP (fun z => decide (cT z t = 0)) = 0 := by
          rw [List.countP_eq_zero]
          intro z hz hz0
          have hz0' : cT z t = 0 := of_decide_eq_true hz0
          have h3 := h1 z hz
          have h4 := cT_eqv (c := z) hyt
          have := cT_anti z t
          omega
        omega
      · have h3 := h1 y hm
        rw [List.countP_cons_of_neg, ih h2 hm]
        intro hz0
        have hz0' : cT a t = 0 := of_decide_eq_true hz0
        have h4 := cT_eqv (c := y) hz0'
        omega
  exact key h.srt hys
/-- The first one at its place is it. -/
theorem fst_at {l : List Rtp} {x : Rtp} (h : Fst l x) {i : Nat} (hi : i < l.length) (h0 : cT x l[i] = 0) (hno : ∀ j (hj : j < i), cT x (l[j]'(by omega)) ≠ 0) : l[i] = x := by
  unfold Fst at h
  have e : l = l.take i ++ l[i] :: l.drop (i + 1) := by simp
  rw [e, List.filter_append] at h
  have hn : (l.take i).filter (fun y => decide (cT x y = 0)) = [] := by
    refine List.filter_eq_nil_iff.2 fun u hu hu0 => ?_
    obtain ⟨j, hj, e2⟩ := List.getElem_of_mem hu
    rw [List.getElem_take] at e2
    have hj2 : j < i := by simp at hj; omega
    exact hno j hj2 (by rw [e2]; exact of_decide_eq_true hu0)
  rw [hn, List.filter_cons_of_pos (by simp [h0])] at h
  simpa using h
end Go.Proofs.Ytbhhkaaidhapbaa
