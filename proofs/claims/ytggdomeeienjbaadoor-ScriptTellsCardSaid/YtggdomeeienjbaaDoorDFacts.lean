
/- Facts on directives' words. No condition. -/
import Derived.Test.YtggdomeeienjbaaDoorDMath
import Derived.Test.YtggdomeeienjbaaDoorDParse
import Derived.Lib.ItoaLen
namespace Go.Proofs.YtggdomeeienjbaaDoor
open Go.ChangeShapes Go.WideShapes Go.ChangeAt Go.RowKit Go.Sort
set_option linter.unusedSimpArgs false
set_option linter.unusedVariables false
theorem nums_le (d : Dr) : (numsD d).length ≤ 6 := by
  unfold numsD
  repeat' split
  all_goals simp [nums0, nums1, nums2, nums3, nums4, nums5]
theorem words_len_eq (d : Dr) : (wordsD d).length = 2 + (numsD d).length := by simp [wordsD]; omega
theorem words_small {d : Dr} (h : rightD d = true) : ∀ x ∈ wordsD d, x.length ≤ 21 := by
  intro x hx
  have hn := right_nums h
  unfold wordsD at hx
  simp only [List.cons_append, List.nil_append, List.mem_cons] at hx
  rcases hx with rfl | rfl | hx
  · unfold gS opW
    rw [List.getD_eq_getElem?_getD]
    match hd : d.op.toNat with
    | 0 => decide
    | 1 => decide
    | 2 => decide
    | 3 => decide
    | k + 4 => simp
  · unfold gS kdW
    rw [List.getD_eq_getElem?_getD]
    match hd : d.kd.toNat with
    | 0 => decide
    | 1 => decide
    | 2 => decide
    | k + 3 => simp
  · obtain ⟨m, hm, rfl⟩ := List.mem_map.1 hx
    obtain ⟨h0, h1⟩ := hn m hm
    exact Lib.itoa_length_le m (by omega) (by omega)
theorem words_apart {d x : Dr} (h : rightD d = true) (h' : rightD x = true) : decide (wordsD d = wordsD x) = decide (d = x) := by
  by_cases he : d = x
  · subst he; simp
  · rw [decide_eq_false he, decide_eq_false]
    intro hw
    have h1 := words_parse h
    rw [hw, words_parse h'] at h1
    injection h1 with h2 _
    exact he h2.symm
theorem right_ops {d : Dr} (h : rightD d = true) : (Lit.int .i64 d.op).wf = true ∧ (Lit.int .i64 d.kd).wf = true := by
  unfold rightD at h
  simp only [Bool.and_eq_true] at h
  obtain ⟨_, _, _, _, _, _, _, hop, hkd⟩ := form_nums d h.1
  refine ⟨?_, ?_⟩
  · rcases hop with h | h | h <;> rw [h] <;> decide
  · rcases hkd with h | h <;> rw [h] <;> decide
/-- Words of a right directive, cut short: none. -/
theorem parse_short {d : Dr} (h : rightD d = true) {n : Nat} (hn : n < (wordsD d).length) : parseD ((wordsD d).take n) = (zeroDr, 2) := by
  obtain ⟨hlen, hmade⟩ := made_of h
  have hns := right_nums h
  have h' := h
  unfold rightD at h'
  simp only [Bool.and_eq_true] at h'
  obtain ⟨hk, hm, _⟩ := h'
  obtain ⟨_, _, _, _, _, _, _, hop, hkd⟩ := form_nums d hk
  rw [words_len_eq] at hn
  by_cases h2 : n < 2
  · unfold parseD
    rw [if_pos (by simp [words_len_eq]; omega)]
  · obtain ⟨m, rfl⟩ : ∃ m, n = 2 + m := ⟨n - 2, by omega⟩
    have e : (wordsD d).take (2 + m) = [gS opW d.op.toNat, gS kdW d.kd.toNat] ++ ((numsD d).take m).map Lib.itoa := by
      unfold wordsD
      rw [List.take_append, List.take_of_length_le (by simp), List.map_take]
      simp
    have e0 : gS ((wordsD d).take (2 + m)) 0 = gS opW d.op.toNat := by rw [e]; rfl
    have e1 : gS ((wordsD d).take (2 + m)) 1 = gS kdW d.kd.toNat := by rw [e]; rfl
    have ed : ((wordsD d).take (2 + m)).drop 2 = ((numsD d).take m).map Lib.itoa := by rw [e]; rfl
    have eop : opF (gS opW d.op.toNat) = d.op := by rw [opF_gS (by omega)]; omega
    have ekd : kdF (gS kdW d.kd.toNat) = d.kd := by rw [kdF_gS (by omega)]; omega
    unfold knownD at hk
    unfold parseD
    rw [if_neg (by rw [List.length_take, words_len_eq]; omega), e0, e1, eop, ekd, if_neg (by rw [hk]; simp), ed, numsF_itoa (fun x hx => hns x (List.mem_of_mem_take hx))]
    dsimp only
    rw [if_neg (by rw [← hlen, List.length_take]; omega)]
theorem numsF_app : ∀ {ns : List Int} {r : List Bytes}, (∀ m ∈ ns, 0 ≤ m ∧ m ≤ 2147483647) → numsF (ns.map Lib.itoa ++ r) = (numsF r).map (ns ++ ·)
  | [], r, _ => by simp
  | x :: ns, r, h => by
    have h1 := h x (by simp)
    have h2 := numsF_app (ns := ns) (r := r) (fun m hm => h m (by simp [hm]))
    unfold numsF at h2 ⊢
    rw [List.map_cons, List.cons_append, List.mapM_cons, parse_itoa (by omega) h1.1 h1.2, h2]
    cases r.mapM (fun x => parseF x 2147483647) <;> simp
/-- More words behind a right directive's: none. -/
theorem parse_long {d : Dr} (h : rightD d = true) {r : List Bytes} (hr : r ≠ []) : parseD (wordsD d ++ r) = (zeroDr, 2) := by
  obtain ⟨hlen, hmade⟩ := made_of h
  have hns := right_nums h
  have h' := h
  unfold rightD at h'
  simp only [Bool.and_eq_true] at h'
  obtain ⟨hk, hm, _⟩ := h'
  obtain ⟨_, _, _, _, _, _, _, hop, hkd⟩ := form_nums d hk
  have e0 : gS (wordsD d ++ r) 0 = gS opW d.op.toNat := rfl
  have e1 : gS (wordsD d ++ r) 1 = gS kdW d.kd.toNat := rfl
  have ed : (wordsD d ++ r).drop 2 = (numsD d).map Lib.itoa ++ r := rfl
  have eop : opF (gS opW d.op.toNat) = d.op := by rw [opF_gS (by omega)]; omega
  have ekd : kdF (gS kdW d.kd.toNat) = d.kd := by rw [kdF_gS (by omega)]; omega
  unfold knownD at hk
  unfold parseD
  rw [if_neg (by simp [wordsD]), e0, e1, eop, ekd, if_neg (by rw [hk]; simp), ed, numsF_app hns]
  cases hq : numsF r with
  | none => rfl
  | some ms =>
    have hl := numsF_len hq
    have hp : 0 < r.length := List.length_pos_iff.2 hr
    simp only [Option.map_some]
    rw [if_neg (by rw [List.length_append, hlen]; omega)]
end Go.Proofs.YtggdomeeienjbaaDoor
