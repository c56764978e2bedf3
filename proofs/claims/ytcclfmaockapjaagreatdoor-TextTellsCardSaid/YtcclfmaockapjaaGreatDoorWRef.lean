
/- The document's own lines and words: contracts of feluccaref02. No condition but on sizes. -/
import Derived.Test.YtcclfmaockapjaaGreatDoorChecked
import Derived.Test.YtcclfmaockapjaaGreatDoorWMath
import Derived.WalkSmall
namespace Go.Proofs.YtcclfmaockapjaaGreatDoor
open Go.ChangeShapes Go.WideShapes Go.ChangeAt Go.RowKit Go.Sort
set_option linter.unusedSimpArgs false
set_option linter.unusedVariables false
theorem infoS : (Tryz.prog.info? 9).map (fun i => (i.zero, i.size, i.bytes)) = some (some (.string ByteArray.empty), 1, 16) := by kernel_rfl
theorem str_ne (a b : Bytes) : (bs a).toList = (bs b).toList ↔ a = b := by rw [bs_toList, bs_toList]
theorem drop_take_next {s : Bytes} {f i : Nat} (hf : f ≤ i) (hi : i < s.length) : (s.take (i + 1)).drop f = (s.take i).drop f ++ [s[i]] := by
  rw [List.take_succ_eq_append_getElem hi, List.drop_append_of_le_length (by simp; omega)]
theorem drop_all (s : Bytes) (k : Nat) : (s.take k).drop k = [] := List.drop_eq_nil_of_le (by simp; omega)
theorem stL_ten (o : List Bytes) (cur : Bytes) : stL (o, cur) 10 = (o ++ [cur], []) := by simp [stL]
theorem stL_other {c : UInt8} (h : c ≠ 10) (o : List Bytes) (cur : Bytes) : stL (o, cur) c = (o, cur ++ [c]) := by simp [stL, h]
theorem byte_eq (c : UInt8) (k : Nat) (hk : k < 256) : (((c.toNat : Int) == (k : Int)) = true ↔ c = UInt8.ofNat k) := by
  rw [beq_iff_eq]
  constructor
  · intro h
    apply UInt8.toNat_inj.1
    simp
    omega
  · intro h
    subst h
    simp
    omega
set_option maxHeartbeats 1000000 in
set_option maxRecDepth 100000 in
theorem rlines_any (s0 : ByteArray) (s : Bytes) (hs0 : s0.data.toList = s) (w : World) (hs : s.length ≤ 100000) :
    Calls Tryz.prog 16 #[.string s0] w fun e w' => ∃ v, e = .returned v ∧ w'.ownsRow w.heap.size 9 1 v (linesL s).length (vs (linesL s)) ∧ Below w.heap.size w w' := by
  obtain ⟨i0, hi0, hz0, hz1, hz2⟩ := info_parts infoS
  obtain ⟨n, hn⟩ : ∃ n, s0.size = n := ⟨_, rfl⟩
  have hsz : s.length = n := by rw [← hs0, ← hn, size_list]
  have hn1 : n ≤ 100000 := by omega
  have HS0 := Lib.hid hs0
  have HSZ := Lib.hid hsz
  clear hs0 hsz hs
  go_enter Tryz.func16, Tryz.ntmps16
  go_wp2
  go_loopw [3, 4, 5] (fun ov fv iv wr => ∃ (o : List Bytes) (k f i : Nat), fv = .int .i64 f ∧ iv = .int .i64 i ∧ f ≤ i ∧ i ≤ n ∧ k ≤ i ∧ Hid (o.length = k) ∧ wr.ownsRow w.heap.size 9 1 ov k (vs o) ∧ Below w.heap.size w wr ∧ Hid ((s.take i).foldl stL ([], []) = (o, (s.take i).drop f))) (fun _ _ iv _ => n - (intOf iv).toNat)
  case atStart => exact ⟨[], 0, 0, 0, rfl, rfl, by omega, by omega, by omega, rfl, World.ownsRow_nil _ _ _ _, Below.refl _ _, rfl⟩
  case round =>
    obtain ⟨o, k, f, i, rfl, rfl, hf, hi, hk, HO, hown, hB, HF⟩ := hrel
    have hsw := hB.size
    by_cases hin : i < n
    · have hin0 : i < s0.size := by omega
      have hins : i < s.length := by have := HSZ.out; omega
      obtain ⟨c, hc⟩ : ∃ c, s[i]'hins = c := ⟨_, rfl⟩
      have hc0 : s0[i]'hin0 = c := by
        rw [← hc]
        have h1 : s0.data.toList[i]'(by rw [HS0.out]; exact hins) = s[i]'hins := by simp [HS0.out]
        rw [← h1]
        rfl
      have hct : ((s0[i]'hin0).toNat : Int) = (c.toNat : Int) := by rw [hc0]
      have hnext := drop_take_next hf hins
      rw [hc] at hnext
      have hfold := fold_next (f := stL) (a := (([] : List Bytes), ([] : Bytes))) hins
      rw [hc, HF.out] at hfold
      by_cases h10 : c = 10
      · subst h10
        have hq : (((s0[i]'hin0).toNat : Int) == 10) = true := by rw [hct]; rfl
        rw [stL_ten] at hfold
        have hcut : s0.extract f i = bs ((s.take i).drop f) := by rw [ext_bs, HS0.out]
        have HFN := Lib.hid hfold
        have HCUT := Lib.hid hcut
        clear hfold hcut hnext hct hc0 hc
        go_wp2_with (first | (at_builtin; refine wpList_append_own _ rfl _ _ 42 rfl w.heap.size 9 i0 (.string ByteArray.empty) 1 16 Tryz.underlying42 hi0 hz0 hz1 hz2 rfl (by decide) _ _ _ rfl (hown.alloc _) ⟨wr.heap.size, 0, none⟩ 1 1 [.string (s0.extract f i)] rfl rfl (cell_one_new _ _ _) (fun x hx => by simp at hx; subst hx; rfl) (by unfold maxLen; omega) (by omega) (by simp; omega) ?_; intro v' w3 hown' hgrow3 hnil3))
        have hownN : w3.ownsRow w.heap.size 9 1 v' (k + 1) (vs (o ++ [(s.take i).drop f])) := by
          rw [vs_append, show vs [(s.take i).drop f] = [.string (s0.extract f i)] by rw [HCUT.out]; rfl]
          exact hown'
        have hBN : Below w.heap.size w w3 := (hB.alloc hsw _).grown hgrow3 (by simp; omega) (fun q hq => (hown.lt q hq).1)
        clear hown' hgrow3 hnil3
        go_wp2
        go_roundw
        case rel => exact ⟨o ++ [(s.take i).drop f], k + 1, i + 1, i + 1, by go_num, by go_num, by omega, by omega, by omega, by simp [Hid, HO.out], hownN, hBN, (HFN.out.trans (by rw [drop_all]))⟩
        case measure => simp [intOf]; omega
      · have hq : (((s0[i]'hin0).toNat : Int) == 10) = false := by
          rw [hct, Bool.eq_false_iff]
          intro e
          exact h10 ((byte_eq c 10 (by omega)).1 e)
        rw [stL_other h10, ← hnext] at hfold
        have HFN := Lib.hid hfold
        clear hfold hnext hct hc0 hc h10
        go_wp2_with fail
        go_roundw
        case rel => exact ⟨o, k, f, i + 1, rfl, by go_num, by omega, by omega, by omega, HO, hown, hB, HFN⟩
        case measure => simp [intOf]; omega
    · have hie : i = n := by omega
      subst hie
      have htk : s.take i = s := List.take_of_length_le (by rw [HSZ.out]; omega)
      have hfold := HF.out
      rw [htk] at hfold
      clear hin HF
      by_cases hfl : f < i
      · have hcut : s0.extract f i = bs (s.drop f) := by rw [ext_bs, HS0.out, htk]
        have hln : linesL s = o ++ [s.drop f] := by
          unfold linesL finS
          rw [hfold, if_neg]
          intro e
          have := congrArg List.length e
          rw [List.length_drop, HSZ.out] at this
          simp at this
          omega
        have HLN := Lib.hid hln
        have HCUT := Lib.hid hcut
        clear hln hcut hfold htk
        go_wp2_with (first | (at_builtin; refine wpList_append_own _ rfl _ _ 42 rfl w.heap.size 9 i0 (.string ByteArray.empty) 1 16 Tryz.underlying42 hi0 hz0 hz1 hz2 rfl (by decide) _ _ _ rfl (hown.alloc _) ⟨wr.heap.size, 0, none⟩ 1 1 [.string (s0.extract f i)] rfl rfl (cell_one_new _ _ _) (fun x hx => by simp at hx; subst hx; rfl) (by unfold maxLen; omega) (by omega) (by simp; omega) ?_; intro v' w3 hown' hgrow3 hnil3))
        have hownN : w3.ownsRow w.heap.size 9 1 v' (linesL s).length (vs (linesL s)) := by
          rw [HLN.out, vs_append, show vs [s.drop f] = [.string (s0.extract f i)] by rw [HCUT.out]; rfl, List.length_append, HO.out]
          exact hown'
        have hBN : Below w.heap.size w w3 := (hB.alloc hsw _).grown hgrow3 (by simp; omega) (fun q hq => (hown.lt q hq).1)
        clear hown' hgrow3 hnil3
        go_wp2
        go_ret
        exact ⟨_, rfl, hownN, hBN⟩
      · have hfe : f = i := by omega
        subst hfe
        have hln : linesL s = o := by
          unfold linesL finS
          rw [hfold, if_pos (List.drop_eq_nil_of_le (by rw [HSZ.out]; omega))]
        have HLN := Lib.hid hln
        clear hln hfold htk
        go_wp2_with fail
        go_ret
        exact ⟨_, rfl, by rw [HLN.out, HO.out]; exact hown, hB⟩

theorem blank_cases (c : UInt8) : (c = 32 ∧ blankC c = true) ∨ (c ≠ 32 ∧ c = 9 ∧ blankC c = true) ∨ (c ≠ 32 ∧ c ≠ 9 ∧ c = 13 ∧ blankC c = true) ∨ (c ≠ 32 ∧ c ≠ 9 ∧ c ≠ 13 ∧ blankC c = false) := by
  unfold blankC
  by_cases h1 : c = 32
  · exact .inl ⟨h1, by simp [h1]⟩
  · by_cases h2 : c = 9
    · exact .inr (.inl ⟨h1, h2, by simp [h2]⟩)
    · by_cases h3 : c = 13
      · exact .inr (.inr (.inl ⟨h1, h2, h3, by simp [h3]⟩))
      · exact .inr (.inr (.inr ⟨h1, h2, h3, by simp [h1, h2, h3]⟩))
theorem byte_ne {c : UInt8} {k : Nat} (hk : k < 256) (h : c ≠ UInt8.ofNat k) : (((c.toNat : Int) == (k : Int)) = false) := by
  rw [Bool.eq_false_iff]
  intro e
  exact h ((byte_eq c k hk).1 e)
set_option maxRecDepth 100000 in
theorem rblank_any (c : UInt8) (b : Bool) (hb : blankC c = b) (w : World) : Calls Tryz.prog 35 #[.int .u8 c.toNat] w fun e w' => e = .returned (.bool b) ∧ w = w' := by
  rcases blank_cases c with ⟨rfl, h⟩ | ⟨_, rfl, h⟩ | ⟨_, _, rfl, h⟩ | ⟨h1, h2, h3, h⟩
  · rw [h] at hb; subst hb
    have q1 : (((32 : UInt8).toNat : Int) == 32) = true := rfl
    go_enter Tryz.func35, Tryz.ntmps35
    go_wp2
    go_ret
    exact ⟨rfl, rfl⟩
  · rw [h] at hb; subst hb
    have q1 : (((9 : UInt8).toNat : Int) == 32) = false := rfl
    have q2 : (((9 : UInt8).toNat : Int) == 9) = true := rfl
    go_enter Tryz.func35, Tryz.ntmps35
    go_wp2
    go_ret
    exact ⟨rfl, rfl⟩
  · rw [h] at hb; subst hb
    have q1 : (((13 : UInt8).toNat : Int) == 32) = false := rfl
    have q2 : (((13 : UInt8).toNat : Int) == 9) = false := rfl
    have q3 : (((13 : UInt8).toNat : Int) == 13) = true := rfl
    go_enter Tryz.func35, Tryz.ntmps35
    go_wp2
    go_ret
    exact ⟨rfl, rfl⟩
  · rw [h] at hb; subst hb
    have q1 : ((c.toNat : Int) == 32) = false := byte_ne (k := 32) (by omega) h1
    have q2 : ((c.toNat : Int) == 9) = false := byte_ne (k := 9) (by omega) h2
    have q3 : ((c.toNat : Int) == 13) = false := byte_ne (k := 13) (by omega) h3
    generalize c.toNat = k at *
    go_enter Tryz.func35, Tryz.ntmps35
    go_wp2
    go_ret
    exact ⟨rfl, rfl⟩
theorem stW_blank {c : UInt8} (h : blankC c = true) (o : List Bytes) (cur : Bytes) : stW (o, cur) c = (if cur = [] then (o, []) else (o ++ [cur], [])) := by simp [stW, h]
theorem stW_other {c : UInt8} (h : blankC c = false) (o : List Bytes) (cur : Bytes) : stW (o, cur) c = (o, cur ++ [c]) := by simp [stW, h]
theorem hash_le (s : Bytes) : (hashL s).length ≤ s.length := by unfold hashL; exact (List.takeWhile_sublist _).length_le
theorem hash_at : ∀ (s : Bytes) (i : Nat) (h : i < (hashL s).length), s[i]'(Nat.lt_of_lt_of_le h (hash_le s)) = (hashL s)[i] ∧ (hashL s)[i] ≠ 35
  | [], i, h => by simp [hashL] at h
  | c :: r, i, h => by
    by_cases hc : c = 35
    · subst hc; simp [hashL] at h
    · have e : hashL (c :: r) = c :: hashL r := by simp [hashL, hc]
      cases i with
      | zero => simp [e, hc]
      | succ i =>
        have := hash_at r i (by rw [e] at h; simpa using h)
        simpa [e] using this
theorem hash_end : ∀ (s : Bytes) (h : (hashL s).length < s.length), s[(hashL s).length] = 35
  | [], h => by simp at h
  | c :: r, h => by
    by_cases hc : c = 35
    · subst hc; simp [hashL]
    · have e : hashL (c :: r) = c :: hashL r := by simp [hashL, hc]
      have := hash_end r (by rw [e] at h; simpa using h)
      simp only [e, List.length_cons, List.getElem_cons_succ]
      exact this
theorem bs_empty {cur : Bytes} : ((bs cur).toList == ([] : List UInt8)) = decide (cur = []) := by rw [bs_toList]; cases cur <;> simp
set_option maxHeartbeats 2000000 in
set_option maxRecDepth 100000 in
theorem rwords_any (s0 : ByteArray) (s : Bytes) (hs0 : s0.data.toList = s) (w : World) (hs : s.length ≤ 100000) :
    Calls Tryz.prog 17 #[.string s0] w fun e w' => ∃ v, e = .returned v ∧ w'.ownsRow w.heap.size 9 1 v (wordsL s).length (vs (wordsL s)) ∧ Below w.heap.size w w' := by
  obtain ⟨i0, hi0, hz0, hz1, hz2⟩ := info_parts infoS
  obtain ⟨n, hn⟩ : ∃ n, s0.size = n := ⟨_, rfl⟩
  have hsz : s.length = n := by rw [← hs0, ← hn, size_list]
  have hn1 : n ≤ 100000 := by omega
  obtain ⟨t, ht⟩ : ∃ t, hashL s = t := ⟨_, rfl⟩
  obtain ⟨m, hm⟩ : ∃ m, t.length = m := ⟨_, rfl⟩
  have hmn : m ≤ n := by rw [← hm, ← ht, ← hsz]; exact hash_le s
  have HT := Lib.hid ht
  have HM := Lib.hid hm
  have HS0 := Lib.hid hs0
  have HSZ := Lib.hid hsz
  have hat : Hid (∀ i, i < m → ∀ h : i < s0.size, ∃ hi : i < t.length, s0[i]'h = t[i]'hi ∧ t[i]'hi ≠ 35) := fun i him h => by
    have hi : i < t.length := by omega
    have h1 := hash_at s i (by rw [ht]; exact hi)
    refine ⟨hi, ?_, ?_⟩
    · have h2 : s0.data.toList[i]'(by rw [hs0, hsz, ← hn]; exact h) = s[i]'(by rw [hsz, ← hn]; exact h) := by simp [hs0]
      have h3 : s0[i]'h = s0.data.toList[i]'(by rw [hs0, hsz, ← hn]; exact h) := rfl
      rw [h3, h2, h1.1]
      simp [ht]
    · have := h1.2
      simpa [ht] using this
  have hend : Hid (∀ h : m < s0.size, s0[m]'h = 35) := fun h => by
    have hml : (hashL s).length < s.length := by rw [ht, hm, hsz, ← hn]; exact h
    have h1 := hash_end s hml
    have h3 : s0[m]'h = s0.data.toList[m]'(by rw [hs0, hsz, ← hn]; exact h) := rfl
    rw [h3]
    simp only [hs0]
    simpa [ht, hm] using h1
  clear hs0 hsz hs ht hm
  go_enter Tryz.func17, Tryz.ntmps17
  go_wp2
  go_loopw [3, 4, 5] (fun ov cv iv wr => ∃ (o : List Bytes) (cur : Bytes) (sc : ByteArray) (k i : Nat), cv = .string sc ∧ Hid (sc = bs cur) ∧ Hid (cur.length ≤ i) ∧ sc.size ≤ i ∧ iv = .int .i64 i ∧ i ≤ m ∧ k ≤ i ∧ Hid (o.length = k) ∧ wr.ownsRow w.heap.size 9 1 ov k (vs o) ∧ Below w.heap.size w wr ∧ Hid ((t.take i).foldl stW ([], []) = (o, cur))) (fun _ _ iv _ => n - (intOf iv).toNat)
  case atStart => exact ⟨[], [], bs [], 0, 0, rfl, rfl, by simp [Hid], by simp [bs, ByteArray.size], rfl, by omega, by omega, rfl, World.ownsRow_nil _ _ _ _, Below.refl _ _, rfl⟩
  case round =>
    obtain ⟨o, cur, sc, k, i, rfl, HSC, HCL, hscz, rfl, hi, hk, HO, hown, hB, HF⟩ := hrel
    have hsw := hB.size
    by_cases him : i < m
    · have hin : i < n := by omega
      have hin0 : i < s0.size := by omega
      obtain ⟨hit, hst, hne⟩ := hat.out i him hin0
      obtain ⟨c, hc⟩ : ∃ c, t[i]'hit = c := ⟨_, rfl⟩
      rw [hc] at hst hne
      have hct : ((s0[i]'hin0).toNat : Int) = (c.toNat : Int) := by rw [hst]
      have hfold := fold_next (f := stW) (a := (([] : List Bytes), ([] : Bytes))) hit
      rw [hc, HF.out] at hfold
      have hq : (((s0[i]'hin0).toNat : Int) != 35) = true := by
        have hb : ((c.toNat : Int) == 35) = false := byte_ne (k := 35) (by omega) hne
        rw [hct, bne, hb]; rfl
      have hwr : IntKind.i64.wrap ((i : Int) + 1) = (i : Int) + 1 := IntWalk.i64_in _ (by omega)
      cases hbl : blankC c with
      | false =>
        rw [stW_other hbl] at hfold
        have HB := Lib.hid hbl
        have hcut : s0.extract i (i + 1) = bs [c] := by
          rw [ext_bs]
          congr 1
          have hil : i < s0.data.toList.length := by rw [HS0.out, HSZ.out]; exact hin
          rw [List.take_succ_eq_append_getElem hil, List.drop_append_of_le_length (by simp; omega), drop_all]
          have : s0.data.toList[i]'hil = c := hst
          rw [this]; rfl
        have HCUT := Lib.hid hcut
        have HFN := Lib.hid hfold
        have HST := Lib.hid hst
        clear hfold hcut hct hne hbl hc hst
        have hszN : (sc ++ s0.extract i (i + 1)).size ≤ i + 1 := by
          rw [HSC.out, HCUT.out, bs_append, bs_size, List.length_append]
          have := HCL.out
          simp
          omega
        have hsz1 : (s0.extract i (i + 1)).size ≤ 1 := by rw [HCUT.out, bs_size]; simp
        have hcat : sc ++ s0.extract i (i + 1) = bs (cur ++ [c]) := by rw [HSC.out, HCUT.out, bs_append]
        have HCAT := Lib.hid hcat
        clear hcat
        have hslc : ∀ w0 : World, (Instr.slice 9 (.string s0) (some (.int .i64 (i : Int))) (some (.int .i64 ((i : Int) + 1))) none).run Tryz.prog w0 = .ok (.string (s0.extract i (i + 1))) w0 := fun w0 => by
          have h := run_slice_string (P := Tryz.prog) w0 9 s0 .i64 .i64 (i : Int) ((i : Int) + 1) Tryz.underlying9 (by omega) (by omega) (by omega)
          rw [show ((i : Int) + 1).toNat = i + 1 by omega, show ((i : Int)).toNat = i by omega] at h
          exact h
        go_wp2_with fail
        refine (rblank_any (s0[i]'hin0) false (by rw [HST.out]; exact HB.out) _).mono ?_
        rintro e w1 ⟨rfl, rfl⟩
        go_wp2_with fail
        go_roundw
        case rel => exact ⟨o, cur ++ [c], sc ++ s0.extract i (i + 1), k, i + 1, rfl, HCAT.out, (by have := HCL.out; simp [Hid]; omega), hszN, by go_num, by omega, by omega, HO, hown, hB, HFN⟩
        case measure => simp [intOf]; omega
      | true =>
        rw [stW_blank hbl] at hfold
        have HB := Lib.hid hbl
        have HST := Lib.hid hst
        by_cases hcur : cur = []
        · rw [if_pos hcur] at hfold
          have hE : sc.toList.isEmpty = true := by rw [HSC.out, bs_toList, hcur]; rfl
          have HFN := Lib.hid hfold
          clear hfold hct hne hbl hc hst hcur
          go_wp2_with fail
          refine (rblank_any (s0[i]'hin0) true (by rw [HST.out]; exact HB.out) _).mono ?_
          rintro e w1 ⟨rfl, rfl⟩
          go_wp2_with fail
          go_roundw
          case rel => exact ⟨o, [], bs [], k, i + 1, rfl, rfl, by simp [Hid], by simp [bs, ByteArray.size], by go_num, by omega, by omega, HO, hown, hB, HFN⟩
          case measure => simp [intOf]; omega
        · rw [if_neg hcur] at hfold
          have hE : sc.toList.isEmpty = false := by rw [HSC.out, bs_toList]; simpa using hcur
          have HFN := Lib.hid hfold
          clear hfold hct hne hbl hc hst hcur
          go_wp2_with fail
          refine (rblank_any (s0[i]'hin0) true (by rw [HST.out]; exact HB.out) _).mono ?_
          rintro e w1 ⟨rfl, rfl⟩
          go_wp2_with (first | (at_builtin; refine wpList_append_own _ rfl _ _ 42 rfl w.heap.size 9 i0 (.string ByteArray.empty) 1 16 Tryz.underlying42 hi0 hz0 hz1 hz2 rfl (by decide) _ _ _ rfl (hown.alloc _) ⟨wr.heap.size, 0, none⟩ 1 1 [.string (sc)] rfl rfl (cell_one_new _ _ _) (fun x hx => by simp at hx; subst hx; rfl) (by unfold maxLen; omega) (by omega) (by simp; omega) ?_; intro v' w3 hown' hgrow3 hnil3))
          have hownN : w3.ownsRow w.heap.size 9 1 v' (k + 1) (vs (o ++ [cur])) := by
            rw [vs_append, show vs [cur] = [.string sc] by rw [HSC.out]; rfl]
            exact hown'
          have hBN : Below w.heap.size w w3 := (hB.alloc hsw _).grown hgrow3 (by simp; omega) (fun q hq => (hown.lt q hq).1)
          clear hown' hgrow3 hnil3
          go_wp2
          go_roundw
          case rel => exact ⟨o ++ [cur], [], bs [], k + 1, i + 1, rfl, rfl, by simp [Hid], by simp [bs, ByteArray.size], by go_num, by omega, by omega, by simp [Hid, HO.out], hownN, hBN, HFN⟩
          case measure => simp [intOf]; omega
    · have hie : i = m := by omega
      subst hie
      have htk : t.take i = t := List.take_of_length_le (by rw [HM.out]; omega)
      have hfold := HF.out
      rw [htk, ← HT.out] at hfold
      have hw : wordsL s = finS (o, cur) := by unfold wordsL; rw [hfold]
      have hstop : ¬ i < n ∨ (∃ h : i < s0.size, (((s0[i]'h).toNat : Int) != 35) = false) := by
        by_cases h : i < n
        · have h1 : i < s0.size := by omega
          exact .inr ⟨h1, by rw [hend.out h1]; rfl⟩
        · exact .inl h
      have HW := Lib.hid hw
      clear htk hfold hw him HF
      by_cases hcur : cur = []
      · have hE : sc.toList.isEmpty = true := by rw [HSC.out, bs_toList, hcur]; rfl
        have hw2 : wordsL s = o := by rw [HW.out]; simp [finS, hcur]
        have HW2 := Lib.hid hw2
        clear hw2 hcur
        rcases hstop with h | ⟨h1, h2⟩
        all_goals
          go_wp2_with fail
          go_ret
          exact ⟨_, rfl, by rw [HW2.out, HO.out]; exact hown, hB⟩
      · have hE : sc.toList.isEmpty = false := by rw [HSC.out, bs_toList]; simpa using hcur
        have hw2 : wordsL s = o ++ [cur] := by rw [HW.out]; simp [finS, hcur]
        have HW2 := Lib.hid hw2
        clear hw2 hcur
        rcases hstop with h | ⟨h1, h2⟩
        all_goals
          go_wp2_with (first | (at_builtin; refine wpList_append_own _ rfl _ _ 42 rfl w.heap.size 9 i0 (.string ByteArray.empty) 1 16 Tryz.underlying42 hi0 hz0 hz1 hz2 rfl (by decide) _ _ _ rfl (hown.alloc _) ⟨wr.heap.size, 0, none⟩ 1 1 [.string (sc)] rfl rfl (cell_one_new _ _ _) (fun x hx => by simp at hx; subst hx; rfl) (by unfold maxLen; omega) (by omega) (by simp; omega) ?_; intro v' w3 hown' hgrow3 hnil3))
          have hownN : w3.ownsRow w.heap.size 9 1 v' (wordsL s).length (vs (wordsL s)) := by
            rw [HW2.out, vs_append, show vs [cur] = [.string sc] by rw [HSC.out]; rfl, List.length_append, HO.out]
            exact hown'
          have hBN : Below w.heap.size w w3 := (hB.alloc hsw _).grown hgrow3 (by simp; omega) (fun q hq => (hown.lt q hq).1)
          clear hown' hgrow3 hnil3
          go_wp2
          go_ret
          exact ⟨_, rfl, hownN, hBN⟩
end Go.Proofs.YtcclfmaockapjaaGreatDoor
