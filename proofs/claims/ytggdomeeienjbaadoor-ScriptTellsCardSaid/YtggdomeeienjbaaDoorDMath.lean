
/- Directives and their words are each other's, as plain functions. No condition. -/
import Derived.Test.YtggdomeeienjbaaDoorDForm
namespace Go.Proofs.YtggdomeeienjbaaDoor
open Go.ChangeShapes Go.WideShapes Go.ChangeAt Go.RowKit Go.Sort
set_option linter.unusedSimpArgs false
set_option linter.unusedVariables false
structure MadeD (op kd : Int) (ns : List Int) : Prop where
  nums : numsD (madeD op kd ns) = ns
  keep : keepD (madeD op kd ns) = madeD op kd ns
  op_ : (madeD op kd ns).op = op
  kd_ : (madeD op kd ns).kd = kd
theorem made_at {op kd : Int} {ns : List Int} (hk : (formV op kd).isSome = true) (hl : ns.length = formLen op kd) : MadeD op kd ns := by
  by_cases c0 : op = 1 ∧ kd = 1
  · obtain ⟨rfl, rfl⟩ := c0
    match ns, hl with
    | [a0, a1, a2, a3, a4, a5], _ => exact ⟨rfl, rfl, rfl, rfl⟩
  by_cases c1 : op = 2 ∧ kd = 1
  · obtain ⟨rfl, rfl⟩ := c1
    match ns, hl with
    | [a0], _ => exact ⟨rfl, rfl, rfl, rfl⟩
  by_cases c2 : op = 3 ∧ kd = 1
  · obtain ⟨rfl, rfl⟩ := c2
    match ns, hl with
    | [a0, a1], _ => exact ⟨rfl, rfl, rfl, rfl⟩
  by_cases c3 : op = 1 ∧ kd = 2
  · obtain ⟨rfl, rfl⟩ := c3
    match ns, hl with
    | [a0, a1, a2, a3, a4], _ => exact ⟨rfl, rfl, rfl, rfl⟩
  by_cases c4 : op = 2 ∧ kd = 2
  · obtain ⟨rfl, rfl⟩ := c4
    match ns, hl with
    | [a0, a1, a2], _ => exact ⟨rfl, rfl, rfl, rfl⟩
  by_cases c5 : op = 3 ∧ kd = 2
  · obtain ⟨rfl, rfl⟩ := c5
    match ns, hl with
    | [a0, a1, a2, a3], _ => exact ⟨rfl, rfl, rfl, rfl⟩
  exfalso
  unfold formV at hk
  simp [c0, c1, c2, c3, c4, c5] at hk
theorem made_of {d : Dr} (h : rightD d = true) : (numsD d).length = formLen d.op d.kd ∧ madeD d.op d.kd (numsD d) = d := by
  unfold rightD at h
  simp only [Bool.and_eq_true, decide_eq_true_eq] at h
  obtain ⟨hk, _, he⟩ := h
  by_cases c0 : d.op = 1 ∧ d.kd = 1
  · have e1 : numsD d = nums0 d := by unfold numsD; simp [c0]
    have e2 : keepD d = withDo (fill0 d) d.op d.kd := by unfold keepD; simp [c0]
    rw [e1]
    refine ⟨by unfold formLen; simp [c0, nums0], ?_⟩
    refine Eq.trans ?_ he.symm
    rw [e2]
    unfold madeD
    simp [c0, nums0, fill0, withDo, gI]
  by_cases c1 : d.op = 2 ∧ d.kd = 1
  · have e1 : numsD d = nums1 d := by unfold numsD; simp [c1]
    have e2 : keepD d = withDo (fill1 d) d.op d.kd := by unfold keepD; simp [c1]
    rw [e1]
    refine ⟨by unfold formLen; simp [c1, nums1], ?_⟩
    refine Eq.trans ?_ he.symm
    rw [e2]
    unfold madeD
    simp [c1, nums1, fill1, withDo, gI]
  by_cases c2 : d.op = 3 ∧ d.kd = 1
  · have e1 : numsD d = nums2 d := by unfold numsD; simp [c2]
    have e2 : keepD d = withDo (fill2 d) d.op d.kd := by unfold keepD; simp [c2]
    rw [e1]
    refine ⟨by unfold formLen; simp [c2, nums2], ?_⟩
    refine Eq.trans ?_ he.symm
    rw [e2]
    unfold madeD
    simp [c2, nums2, fill2, withDo, gI]
  by_cases c3 : d.op = 1 ∧ d.kd = 2
  · have e1 : numsD d = nums3 d := by unfold numsD; simp [c3]
    have e2 : keepD d = withDo (fill3 d) d.op d.kd := by unfold keepD; simp [c3]
    rw [e1]
    refine ⟨by unfold formLen; simp [c3, nums3], ?_⟩
    refine Eq.trans ?_ he.symm
    rw [e2]
    unfold madeD
    simp [c3, nums3, fill3, withDo, gI]
  by_cases c4 : d.op = 2 ∧ d.kd = 2
  · have e1 : numsD d = nums4 d := by unfold numsD; simp [c4]
    have e2 : keepD d = withDo (fill4 d) d.op d.kd := by unfold keepD; simp [c4]
    rw [e1]
    refine ⟨by unfold formLen; simp [c4, nums4], ?_⟩
    refine Eq.trans ?_ he.symm
    rw [e2]
    unfold madeD
    simp [c4, nums4, fill4, withDo, gI]
  by_cases c5 : d.op = 3 ∧ d.kd = 2
  · have e1 : numsD d = nums5 d := by unfold numsD; simp [c5]
    have e2 : keepD d = withDo (fill5 d) d.op d.kd := by unfold keepD; simp [c5]
    rw [e1]
    refine ⟨by unfold formLen; simp [c5, nums5], ?_⟩
    refine Eq.trans ?_ he.symm
    rw [e2]
    unfold madeD
    simp [c5, nums5, fill5, withDo, gI]
  exfalso
  unfold knownD formV at hk
  simp [c0, c1, c2, c3, c4, c5] at hk
theorem opF_gS {k : Nat} (h : k = 1 ∨ k = 2 ∨ k = 3) : opF (gS opW k) = (k : Int) := by
  rcases h with rfl | rfl | rfl <;> decide
theorem kdF_gS {k : Nat} (h : k = 1 ∨ k = 2) : kdF (gS kdW k) = (k : Int) := by
  rcases h with rfl | rfl <;> decide
theorem gS_opF {x : Bytes} (h : opF x = 1 ∨ opF x = 2 ∨ opF x = 3) : gS opW (opF x).toNat = x := by
  unfold opF at h ⊢
  repeat' split
  · rename_i e; rw [e]; rfl
  · rename_i e; rw [e]; rfl
  · rename_i e; rw [e]; rfl
  · simp_all
theorem gS_kdF {x : Bytes} (h : kdF x = 1 ∨ kdF x = 2) : gS kdW (kdF x).toNat = x := by
  unfold kdF at h ⊢
  repeat' split
  · rename_i e; rw [e]; rfl
  · rename_i e; rw [e]; rfl
  · simp_all
theorem numsF_itoa : ∀ {ns : List Int}, (∀ m ∈ ns, 0 ≤ m ∧ m ≤ 2147483647) → numsF (ns.map Lib.itoa) = some ns
  | [], _ => rfl
  | x :: ns, h => by
    have h1 := h x (by simp)
    have h2 := numsF_itoa (ns := ns) (fun m hm => h m (by simp [hm]))
    unfold numsF at h2 ⊢
    rw [List.map_cons, List.mapM_cons, parse_itoa (by omega) h1.1 h1.2, h2]
    rfl
theorem itoa_numsF : ∀ {d : List Bytes} {ns : List Int}, numsF d = some ns → ns.map Lib.itoa = d
  | [], ns, h => by
    simp [numsF] at h
    subst h
    rfl
  | x :: d, ns, h => by
    unfold numsF at h
    rw [List.mapM_cons] at h
    cases h1 : parseF x 2147483647 with
    | none => rw [h1] at h; simp at h
    | some a =>
      rw [h1] at h
      cases h2 : d.mapM (fun x => parseF x 2147483647) with
      | none => rw [h2] at h; simp at h
      | some b =>
        rw [h2] at h
        simp at h
        subst h
        have h3 := itoa_numsF (d := d) (ns := b) h2
        rw [List.map_cons, h3, (itoa_parse h1).1]
/-- What a right directive's words say is the directive. -/
theorem words_parse {d : Dr} (h : rightD d = true) : parseD (wordsD d) = (d, 0) := by
  obtain ⟨hlen, hmade⟩ := made_of h
  have hn := right_nums h
  have h' := h
  unfold rightD at h'
  simp only [Bool.and_eq_true] at h'
  obtain ⟨hk, hm, _⟩ := h'
  obtain ⟨_, _, _, _, _, _, _, hop, hkd⟩ := form_nums d hk
  have e0 : gS (wordsD d) 0 = gS opW d.op.toNat := rfl
  have e1 : gS (wordsD d) 1 = gS kdW d.kd.toNat := rfl
  have ed : (wordsD d).drop 2 = (numsD d).map Lib.itoa := rfl
  have eop : opF (gS opW d.op.toNat) = d.op := by rw [opF_gS (by omega)]; omega
  have ekd : kdF (gS kdW d.kd.toNat) = d.kd := by rw [kdF_gS (by omega)]; omega
  unfold knownD at hk
  unfold parseD
  rw [if_neg (by simp [wordsD]), e0, e1, eop, ekd, if_neg (by rw [hk]; simp), ed, numsF_itoa hn]
  dsimp only
  rw [if_pos hlen, hmade, if_pos hm]
/-- The words that say a directive are its words, and it is right. -/
theorem parse_words {l : List Bytes} {d : Dr} (h : parseD l = (d, 0)) : rightD d = true ∧ wordsD d = l := by
  unfold parseD at h
  split at h
  · injection h with _ h2; cases h2
  rename_i hlen
  split at h
  · injection h with _ h2; cases h2
  rename_i hk
  cases hns : numsF (l.drop 2) with
  | none => rw [hns] at h; injection h with _ h2; cases h2
  | some ns =>
    rw [hns] at h
    dsimp only at h
    split at h
    · rename_i hl
      split at h
      · rename_i hm
        injection h with h1 h2
        have hk2 : (formV (opF (gS l 0)) (kdF (gS l 1))).isSome = true := by
          cases hh : (formV (opF (gS l 0)) (kdF (gS l 1))).isSome with
          | true => rfl
          | false => exact absurd hh hk
        obtain ⟨_, _, _, _, hop, hkd⟩ := form_of hk2
        have hM := made_at hk2 hl
        subst h1
        refine ⟨?_, ?_⟩
        · unfold rightD knownD
          rw [hM.op_, hM.kd_, hk2, hm, hM.keep]
          simp
        · unfold wordsD
          rw [hM.nums, hM.op_, hM.kd_, gS_opF hop, gS_kdF hkd, itoa_numsF hns]
          match l, hlen with
          | [], h => exact absurd (by simp) h
          | [x], h => exact absurd (by simp) h
          | x :: y :: r, _ => rfl
      · injection h with _ h2; cases h2
    · injection h with _ h2; cases h2
/-- What comes of words that say none. -/
theorem parse_none {l : List Bytes} {d : Dr} {q : Int} (h : parseD l = (d, q)) (hq : q ≠ 0) : d = zeroDr ∧ (q = 1 ∨ q = 2) := by
  unfold parseD at h
  repeat' split at h
  all_goals
    injection h with h1 h2
    first
      | exact absurd h2.symm hq
      | exact ⟨h1.symm, by omega⟩
end Go.Proofs.YtggdomeeienjbaaDoor
