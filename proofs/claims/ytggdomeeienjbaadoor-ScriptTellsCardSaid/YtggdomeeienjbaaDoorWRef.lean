
/- The document's own lines and words: contracts of feluccaref02. No condition but on sizes. -/
import Derived.Test.YtggdomeeienjbaaDoorChecked
import Derived.Test.YtggdomeeienjbaaDoorWMath
import Derived.WalkSmall
namespace Go.Proofs.YtggdomeeienjbaaDoor
open Go.ChangeShapes Go.WideShapes Go.ChangeAt Go.RowKit Go.Sort
set_option linter.unusedSimpArgs false
set_option linter.unusedVariables false
theorem infoS : (Tryd.prog.info? 9).map (fun i => (i.zero, i.size, i.bytes)) = some (some (.string ByteArray.empty), 1, 16) := by kernel_rfl
theorem str_ne (a b : Bytes) : (bs a).toList = (bs b).toList ↔ a = b := by rw [bs_toList, bs_toList]
theorem drop_take_next {s : Bytes} {f i : Nat} (hf : f ≤ i) (hi : i < s.length) : (s.take (i + 1)).drop f = (s.take i).drop f ++ [s[i]] := by
  rw [List.take_succ_eq_append_getElem hi, List.drop_append_of_le_length (by simp; omega)]
theorem drop_all (s : Bytes) (k : Nat) : (s.take k).drop k = [] := List.drop_eq_nil_of_le (by simp; omega)
theorem stL_ten (o : List Bytes) (cur : Bytes) : stL (o, cur) 10 = (o ++ [cur], []) := by simp [stL]
theorem stL_other {c : UInt8} (h : c ≠ 10) (o : List Bytes) (cur : Bytes) : stL (o, cur) c = (o, cur ++ [c]) := by simp [stL, h]
theorem byte_eq (c : UInt8) (k : Nat) (hk : k < 256) : (((c.toNat : Int) == (k : Int)) = true ↔ c = UInt8.ofNat k) := by
  rw [beq_iff_eq]
  constructor
  · intro h
    apply UInt8.toNat_inj.1
    simp
    omega
  · intro h
    subst h
    simp
    omega
theorem blank_cases (c : UInt8) : (c = 32 ∧ blankC c = true) ∨ (c ≠ 32 ∧ c = 9 ∧ blankC c = true) ∨ (c ≠ 32 ∧ c ≠ 9 ∧ c = 13 ∧ blankC c = true) ∨ (c ≠ 32 ∧ c ≠ 9 ∧ c ≠ 13 ∧ blankC c = false) := by
  unfold blankC
  by_cases h1 : c = 32
  · exact .inl ⟨h1, by simp [h1]⟩
  · by_cases h2 : c = 9
    · exact .inr (.inl ⟨h1, h2, by simp [h2]⟩)
    · by_cases h3 : c = 13
      · exact .inr (.inr (.inl ⟨h1, h2, h3, by simp [h3]⟩))
      · exact .inr (.inr (.inr ⟨h1, h2, h3, by simp [h1, h2, h3]⟩))
theorem byte_ne {c : UInt8} {k : Nat} (hk : k < 256) (h : c ≠ UInt8.ofNat k) : (((c.toNat : Int) == (k : Int)) = false) := by
  rw [Bool.eq_false_iff]
  intro e
  exact h ((byte_eq c k hk).1 e)
theorem stW_blank {c : UInt8} (h : blankC c = true) (o : List Bytes) (cur : Bytes) : stW (o, cur) c = (if cur = [] then (o, []) else (o ++ [cur], [])) := by simp [stW, h]
theorem stW_other {c : UInt8} (h : blankC c = false) (o : List Bytes) (cur : Bytes) : stW (o, cur) c = (o, cur ++ [c]) := by simp [stW, h]
theorem hash_le (s : Bytes) : (hashL s).length ≤ s.length := by unfold hashL; exact (List.takeWhile_sublist _).length_le
theorem hash_at : ∀ (s : Bytes) (i : Nat) (h : i < (hashL s).length), s[i]'(Nat.lt_of_lt_of_le h (hash_le s)) = (hashL s)[i] ∧ (hashL s)[i] ≠ 35
  | [], i, h => by simp [hashL] at h
  | c :: r, i, h => by
    by_cases hc : c = 35
    · subst hc; simp [hashL] at h
    · have e : hashL (c :: r) = c :: hashL r := by simp [hashL, hc]
      cases i with
      | zero => simp [e, hc]
      | succ i =>
        have := hash_at r i (by rw [e] at h; simpa using h)
        simpa [e] using this
theorem hash_end : ∀ (s : Bytes) (h : (hashL s).length < s.length), s[(hashL s).length] = 35
  | [], h => by simp at h
  | c :: r, h => by
    by_cases hc : c = 35
    · subst hc; simp [hashL]
    · have e : hashL (c :: r) = c :: hashL r := by simp [hashL, hc]
      have := hash_end r (by rw [e] at h; simpa using h)
      simp only [e, List.length_cons, List.getElem_cons_succ]
      exact this
theorem bs_empty {cur : Bytes} : ((bs cur).toList == ([] : List UInt8)) = decide (cur = []) := by rw [bs_toList]; cases cur <;> simp
end Go.Proofs.YtggdomeeienjbaaDoor
