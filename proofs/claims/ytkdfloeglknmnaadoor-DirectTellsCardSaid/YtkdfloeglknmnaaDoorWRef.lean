
/- The document's own lines and words: contracts of feluccaref02. No condition but on sizes. -/
import Derived.Test.YtkdfloeglknmnaaDoorChecked
import Derived.Test.YtkdfloeglknmnaaDoorWMath
import Derived.WalkSmall
namespace Go.Proofs.YtkdfloeglknmnaaDoor
open Go.ChangeShapes Go.WideShapes Go.ChangeAt Go.RowKit Go.Sort
set_option linter.unusedSimpArgs false
set_option linter.unusedVariables false
theorem infoS : (Tryd.prog.info? 9).map (fun i => (i.zero, i.size, i.bytes)) = some (some (.string ByteArray.empty), 1, 16) := by kernel_rfl
theorem str_ne (a b : Bytes) : (bs a).toList = (bs b).toList ↔ a = b := by rw [bs_toList, bs_toList]
set_option maxHeartbeats 1000000 in
set_option maxRecDepth 100000 in
theorem rsame_any (A A' : Option Addr) (n c n' c' : Nat) (d d' : List Bytes) (w : World) (hd : d.length = n) (hd' : d'.length = n') (hn : n ≤ 100000) (h : Sl w w.heap.size 1 A n c (vs d)) (h' : Sl w w.heap.size 1 A' n' c' (vs d')) :
    Calls Tryd.prog 15 #[.slice A n c, .slice A' n' c'] w fun e w' => e = .returned (.bool (decide (d = d'))) ∧ Below w.heap.size w w' := by
  have HD := Lib.hid hd
  have HD' := Lib.hid hd'
  clear hd hd'
  by_cases hl : n = n'
  · subst hl
    have HL := Lib.hid h
    have HL' := Lib.hid h'
    clear h h'
    go_enter Tryd.func15, Tryd.ntmps15
    go_wp2
    go_loopw [5] (fun iv wr => ∃ (i : Nat), iv = .int .i64 i ∧ i ≤ n ∧ Hid (d.take i = d'.take i) ∧ Below w.heap.size w wr) (fun iv _ => n - (intOf iv).toNat)
    case atStart => exact ⟨0, rfl, by omega, by simp [Hid], Below.refl _ _⟩
    case round =>
      obtain ⟨i, rfl, hi, HE, hB⟩ := hrel
      by_cases hin : i < n
      · obtain ⟨ad, rfl, hab, c0⟩ := (HL.out.below hB).lst.atS HD.out hin
        obtain ⟨ad', rfl, hab', c0'⟩ := (HL'.out.below hB).lst.atS HD'.out hin
        by_cases he : gS d i = gS d' i
        · have HE2 : Hid (d.take (i + 1) = d'.take (i + 1)) := by
            show d.take (i + 1) = d'.take (i + 1)
            rw [take_nextS (by rw [HD.out]; exact hin), take_nextS (by rw [HD'.out]; exact hin), HE.out, he]
          rw [he] at c0
          clear HE
          go_wp2_with fail
          have q_c0 := fun d os => cell_regrown c0 d os
          have q_c0' := fun d os => cell_regrown c0' d os
          try simp only [List.append]
          first | refine wp_region_text_below ?_ | refine wp_region_quiet_below (by kernel_rfl) (by kernel_rfl) ?_
          repeat (go_big_quiet_step ((fail)))
          refine wpQuiet_nil ?_
          intro _ hqw
          obtain ⟨pq, hqw⟩ := hqw
          subst hqw
          clear q_c0 q_c0'
          have hbq := hB.trans ((below_regrown wr pq.d pq.os).mono hB.size)
          clear c0 c0'
          generalize grow (redrawn wr pq.d) pq.os = wq at *
          go_wp2_with fail
          go_roundw
          case rel => exact ⟨i + 1, by go_num, by omega, HE2, hbq⟩
          case measure => simp [intOf]; omega
        · have hne : d ≠ d' := fun e => he (by rw [e])
          have hsb : ((bs (gS d i)).toList == (bs (gS d' i)).toList) = false := by
            rw [beq_eq_false_iff_ne]
            intro e
            exact he ((str_ne _ _).1 e)
          have HNE := Lib.hid hne
          clear hne
          generalize bs (gS d i) = s1 at *
          generalize bs (gS d' i) = s2 at *
          go_wp2_with fail
          have q_c0 := fun d os => cell_regrown c0 d os
          have q_c0' := fun d os => cell_regrown c0' d os
          try simp only [List.append]
          first | refine wp_region_text_below ?_ | refine wp_region_quiet_below (by kernel_rfl) (by kernel_rfl) ?_
          repeat (go_big_quiet_step ((fail)))
          refine wpQuiet_nil ?_
          intro _ hqw
          obtain ⟨pq, hqw⟩ := hqw
          subst hqw
          clear q_c0 q_c0'
          have hbq := hB.trans ((below_regrown wr pq.d pq.os).mono hB.size)
          clear c0 c0'
          generalize grow (redrawn wr pq.d) pq.os = wq at *
          go_wp2_with fail
          go_ret
          exact ⟨by rw [decide_eq_false HNE.out]; rfl, hbq⟩
      · have hie : i = n := by omega
        subst hie
        have hdd : d = d' := by
          have := HE.out
          rw [List.take_of_length_le (by rw [HD.out]; omega), List.take_of_length_le (by rw [HD'.out]; omega)] at this
          exact this
        have HDD := Lib.hid hdd
        clear hdd
        go_wp2_with fail
        go_ret
        exact ⟨by rw [decide_eq_true HDD.out]; rfl, hB⟩
  · have hne : d ≠ d' := fun e => hl (by rw [← HD.out, ← HD'.out, e])
    have hb : ((n : Int) != (n' : Int)) = true := by simp; omega
    have HNE := Lib.hid hne
    clear hl hne
    go_enter Tryd.func15, Tryd.ntmps15
    go_wp2
    go_ret
    exact ⟨by rw [decide_eq_false HNE.out]; rfl, Below.refl _ _⟩

theorem drop_take_next {s : Bytes} {f i : Nat} (hf : f ≤ i) (hi : i < s.length) : (s.take (i + 1)).drop f = (s.take i).drop f ++ [s[i]] := by
  rw [List.take_succ_eq_append_getElem hi, List.drop_append_of_le_length (by simp; omega)]
theorem drop_all (s : Bytes) (k : Nat) : (s.take k).drop k = [] := List.drop_eq_nil_of_le (by simp; omega)
theorem stL_ten (o : List Bytes) (cur : Bytes) : stL (o, cur) 10 = (o ++ [cur], []) := by simp [stL]
theorem stL_other {c : UInt8} (h : c ≠ 10) (o : List Bytes) (cur : Bytes) : stL (o, cur) c = (o, cur ++ [c]) := by simp [stL, h]
theorem byte_eq (c : UInt8) (k : Nat) (hk : k < 256) : (((c.toNat : Int) == (k : Int)) = true ↔ c = UInt8.ofNat k) := by
  rw [beq_iff_eq]
  constructor
  · intro h
    apply UInt8.toNat_inj.1
    simp
    omega
  · intro h
    subst h
    simp
    omega
theorem blank_cases (c : UInt8) : (c = 32 ∧ blankC c = true) ∨ (c ≠ 32 ∧ c = 9 ∧ blankC c = true) ∨ (c ≠ 32 ∧ c ≠ 9 ∧ c = 13 ∧ blankC c = true) ∨ (c ≠ 32 ∧ c ≠ 9 ∧ c ≠ 13 ∧ blankC c = false) := by
  unfold blankC
  by_cases h1 : c = 32
  · exact .inl ⟨h1, by simp [h1]⟩
  · by_cases h2 : c = 9
    · exact .inr (.inl ⟨h1, h2, by simp [h2]⟩)
    · by_cases h3 : c = 13
      · exact .inr (.inr (.inl ⟨h1, h2, h3, by simp [h3]⟩))
      · exact .inr (.inr (.inr ⟨h1, h2, h3, by simp [h1, h2, h3]⟩))
theorem byte_ne {c : UInt8} {k : Nat} (hk : k < 256) (h : c ≠ UInt8.ofNat k) : (((c.toNat : Int) == (k : Int)) = false) := by
  rw [Bool.eq_false_iff]
  intro e
  exact h ((byte_eq c k hk).1 e)
theorem stW_blank {c : UInt8} (h : blankC c = true) (o : List Bytes) (cur : Bytes) : stW (o, cur) c = (if cur = [] then (o, []) else (o ++ [cur], [])) := by simp [stW, h]
theorem stW_other {c : UInt8} (h : blankC c = false) (o : List Bytes) (cur : Bytes) : stW (o, cur) c = (o, cur ++ [c]) := by simp [stW, h]
theorem hash_le (s : Bytes) : (hashL s).length ≤ s.length := by unfold hashL; exact (List.takeWhile_sublist _).length_le
theorem hash_at : ∀ (s : Bytes) (i : Nat) (h : i < (hashL s).length), s[i]'(Nat.lt_of_lt_of_le h (hash_le s)) = (hashL s)[i] ∧ (hashL s)[i] ≠ 35
  | [], i, h => by simp [hashL] at h
  | c :: r, i, h => by
    by_cases hc : c = 35
    · subst hc; simp [hashL] at h
    · have e : hashL (c :: r) = c :: hashL r := by simp [hashL, hc]
      cases i with
      | zero => simp [e, hc]
      | succ i =>
        have := hash_at r i (by rw [e] at h; simpa using h)
        simpa [e] using this
theorem hash_end : ∀ (s : Bytes) (h : (hashL s).length < s.length), s[(hashL s).length] = 35
  | [], h => by simp at h
  | c :: r, h => by
    by_cases hc : c = 35
    · subst hc; simp [hashL]
    · have e : hashL (c :: r) = c :: hashL r := by simp [hashL, hc]
      have := hash_end r (by rw [e] at h; simpa using h)
      simp only [e, List.length_cons, List.getElem_cons_succ]
      exact this
theorem bs_empty {cur : Bytes} : ((bs cur).toList == ([] : List UInt8)) = decide (cur = []) := by rw [bs_toList]; cases cur <;> simp
end Go.Proofs.YtkdfloeglknmnaaDoor
