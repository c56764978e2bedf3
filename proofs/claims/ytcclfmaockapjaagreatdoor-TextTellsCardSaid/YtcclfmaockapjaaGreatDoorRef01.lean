
/- Contracts of the document's answers for numbers' texts: at all numbers, at all texts. No condition. -/
import Derived.Test.YtcclfmaockapjaaGreatDoorNumMath
import Derived.Laws.BytesString
namespace Go.Proofs.YtcclfmaockapjaaGreatDoor
open Go.ChangeShapes Go.WideShapes Go.ChangeAt Go.RowKit Go.Sort
set_option linter.unusedSimpArgs false
set_option linter.unusedVariables false

theorem itoa_digit {n : Int} (h0 : 0 ≤ n) (h1 : n ≤ 9) : Lib.itoa n = [UInt8.ofNat (48 + n.toNat)] := by
  unfold Lib.itoa
  rw [if_neg (by omega), Lib.decDigits_one (by omega)]
theorem itoa_more {n : Int} (h0 : 10 ≤ n) : Lib.itoa n = Lib.itoa (n / 10) ++ [UInt8.ofNat (48 + (n % 10).toNat)] := by
  unfold Lib.itoa
  rw [if_neg (by omega), if_neg (by omega), Lib.decDigits, dif_neg (by omega)]
  rw [show n.toNat / 10 = (n / 10).toNat by omega, show n.toNat % 10 = (n % 10).toNat by omega]
theorem itoa_neg {n : Int} (h0 : n < 0) : Lib.itoa n = 45 :: Lib.itoa (-n) := by
  unfold Lib.itoa
  rw [if_pos h0, if_neg (by omega), show n.natAbs = (-n).toNat by omega]
theorem itoa_negmore {n : Int} (h0 : n ≤ -10) : Lib.itoa n = Lib.itoa (-((-n) / 10)) ++ Lib.itoa ((-n) % 10) := by
  rw [itoa_neg (by omega), itoa_more (by omega), itoa_neg (n := -((-n) / 10)) (by omega), itoa_digit (n := (-n) % 10) (by omega) (by omega), Int.neg_neg]
  rfl

theorem conv_one (W : World) (c : Int) :
    (convert 47 9 (.slice (some ⟨W.heap.size, 0, none⟩) 1 1)).run Tryz.prog (W.alloc (.cells #[.int .u8 c] 5)) = .ok (.string (bs [UInt8.ofNat c.toNat])) (W.alloc (.cells #[.int .u8 c] 5)) := by
  rw [run_convert_bytes_string (P := Tryz.prog) (W.alloc (.cells #[.int .u8 c] 5)) 47 9 5 _ _ _ Tryz.underlying47 Tryz.underlying5 Tryz.underlying9]
  rw [run_bytesToString (W.alloc (.cells #[.int .u8 c] 5)) ⟨W.heap.size, 0, none⟩ 1 1 [c] (by simp [loadCells, go_sem])]
  rfl

theorem rtext_digit {n : Int} (h0 : 0 ≤ n) (h1 : n ≤ 9) (w : World) :
    Calls Tryz.prog 45 #[.int .i64 n] w fun e w' => e = .returned (.string (bs (Lib.itoa n))) ∧ Below w.heap.size w w' := by
  have hc := conv_one w (48 + n % 10)
  have h2 : ¬ n < 0 := by omega
  have h3 : n < 10 := by omega
  have E := Lib.hid (show bs [UInt8.ofNat (48 + n % 10).toNat] = bs (Lib.itoa n) by
    rw [itoa_digit h0 h1, show (48 + n % 10).toNat = 48 + n.toNat by omega])
  go_enter Tryz.func45, Tryz.ntmps45
  go_wp2
  go_ret
  exact ⟨by rw [← E.out]; rfl, (Below.refl _ _).alloc (Nat.le_refl _) _⟩

theorem bs_len_le {l : List UInt8} {k : Nat} (h : l.length ≤ k) : (bs l).size ≤ k := by rw [bs_size]; exact h

set_option maxHeartbeats 1000000 in
theorem rtext_ind (k : Nat) : ∀ (n : Int) (w : World), 2 * n.natAbs + (if n < 0 then 1 else 0) ≤ k → -9223372036854775808 ≤ n → n ≤ 9223372036854775807 →
    Calls Tryz.prog 45 #[.int .i64 n] w fun e w' => e = .returned (.string (bs (Lib.itoa n))) ∧ Below w.heap.size w w' := by
  induction k with
  | zero =>
    intro n w hk _ _
    exact rtext_digit (by omega) (by omega) w
  | succ k ih =>
    intro n w hk hlo hhi
    by_cases h1 : n < 0
    · by_cases h2 : -10 < n
      · have ih1 := Lib.hid (ih (-n) w (by split at hk <;> split <;> omega) (by omega) (by omega))
        have hs : (bs (Lib.itoa (-n))).size ≤ 20 := bs_len_le (itoa_len (by omega) (by omega)).2
        have E := Lib.hid (show bs (Lib.itoa n) = (⟨#[45]⟩ : ByteArray) ++ bs (Lib.itoa (-n)) by rw [itoa_neg h1, show (⟨#[45]⟩ : ByteArray) = bs [45] from rfl, bs_append]; rfl)
        obtain ⟨s, hsn⟩ : ∃ s, bs (Lib.itoa (-n)) = s := ⟨_, rfl⟩
        rw [hsn] at ih1 hs E
        clear ih hk hsn
        go_enter Tryz.func45, Tryz.ntmps45
        go_wp2_with fail
        (with_reducible refine Calls.mono ih1.out ?_)
        rintro e w1 ⟨rfl, hB⟩
        go_wp2
        go_ret
        exact ⟨by rw [E.out]; rfl, hB⟩
      · obtain ⟨q, hq⟩ : ∃ q, n.tdiv 10 = q := ⟨_, rfl⟩
        obtain ⟨r, hr⟩ : ∃ r, n.tmod 10 = r := ⟨_, rfl⟩
        have q1 : q = -((-n) / 10) := by
          rw [← hq, show n = -(-n) by omega, Int.neg_tdiv, Int.tdiv_eq_ediv_of_nonneg (by omega), Int.neg_neg]
        have r1 : r = -((-n) % 10) := by
          rw [← hr, show n = -(-n) by omega, Int.neg_tmod, Int.tmod_eq_emod_of_nonneg (by omega), Int.neg_neg]
        have ih1 := Lib.hid (ih q w (by split at hk <;> split <;> omega) (by omega) (by omega))
        have ih2 := Lib.hid (fun w' => rtext_digit (n := -r) (by omega) (by omega) w')
        have hs1 : (bs (Lib.itoa q)).size ≤ 20 := bs_len_le (itoa_len (by omega) (by omega)).2
        have hs2 : (bs (Lib.itoa (-r))).size ≤ 20 := bs_len_le (itoa_len (by omega) (by omega)).2
        have E := Lib.hid (show bs (Lib.itoa n) = bs (Lib.itoa q) ++ bs (Lib.itoa (-r)) by rw [itoa_negmore (by omega), bs_append, q1, r1, Int.neg_neg])
        obtain ⟨s, hsn⟩ : ∃ s, bs (Lib.itoa q) = s := ⟨_, rfl⟩
        obtain ⟨s2, hsn2⟩ : ∃ s, bs (Lib.itoa (-r)) = s := ⟨_, rfl⟩
        rw [hsn] at ih1 hs1 E
        rw [hsn2] at hs2 E
        simp only [hsn2] at ih2
        have q2 : -922337203685477580 ≤ q := by omega
        have q3 : q ≤ -1 := by omega
        have r2 : -9 ≤ r := by omega
        have r3 : r ≤ 0 := by omega
        clear ih hk hsn hsn2 q1 r1
        go_enter Tryz.func45, Tryz.ntmps45
        go_wp2_with fail
        (with_reducible refine Calls.mono ih1.out ?_)
        rintro e w1 ⟨rfl, hB⟩
        go_wp2_with fail
        (with_reducible refine Calls.mono (ih2.out _) ?_)
        rintro e w2 ⟨rfl, hb⟩
        replace hB := hB.trans (hb.mono hB.size)
        go_wp2
        go_ret
        exact ⟨by rw [E.out]; rfl, hB⟩
    · by_cases h2 : n < 10
      · exact rtext_digit (by omega) (by omega) w
      · have ih1 := Lib.hid (fun w' => ih (n / 10) w' (by split at hk <;> split <;> omega) (by omega) (by omega))
        have hc := conv_one w (48 + n % 10)
        have hs1 : (bs (Lib.itoa (n / 10))).size ≤ 20 := bs_len_le (itoa_len (by omega) (by omega)).2
        have hs2 : (bs [UInt8.ofNat (48 + n % 10).toNat]).size ≤ 1 := bs_len_le (by simp)
        have E := Lib.hid (show bs (Lib.itoa n) = bs (Lib.itoa (n / 10)) ++ bs [UInt8.ofNat (48 + n % 10).toNat] by
          rw [itoa_more (by omega), bs_append, show (48 + n % 10).toNat = 48 + (n % 10).toNat by omega])
        obtain ⟨s, hsn⟩ : ∃ s, bs (Lib.itoa (n / 10)) = s := ⟨_, rfl⟩
        obtain ⟨s2, hsn2⟩ : ∃ s, bs [UInt8.ofNat (48 + n % 10).toNat] = s := ⟨_, rfl⟩
        rw [hsn] at hs1 E
        rw [hsn2] at hs2 E hc
        simp only [hsn] at ih1
        clear ih hk hsn hsn2
        go_enter Tryz.func45, Tryz.ntmps45
        go_wp2_with fail
        (with_reducible refine Calls.mono (ih1.out _) ?_)
        rintro e w1 ⟨rfl, hB⟩
        go_wp2
        go_ret
        exact ⟨by rw [E.out]; rfl, by (repeat (first | exact Below.refl _ _ | exact hB | refine Below.alloc ?_ (by first | omega | (simp; done) | (simp; omega)) _ | refine Below.setCell ?_ (by first | omega | (simp; done) | (simp; omega)) _ | refine Below.drew ?_ | refine Below.trans ?_ (hB.mono (by first | omega | (simp; done) | (simp; omega)))))⟩
theorem rtext_any {n : Int} (h0 : -9223372036854775808 ≤ n) (h1 : n ≤ 9223372036854775807) (w : World) :
    Calls Tryz.prog 45 #[.int .i64 n] w fun e w' => e = .returned (.string (bs (Lib.itoa n))) ∧ Below w.heap.size w w' := rtext_ind _ n w (Nat.le_refl _) h0 h1

theorem parseF_none_of {l : List UInt8} {high : Int} (h : dfold 0 l = none) : parseF l high = none := by
  cases hp : parseF l high with
  | none => rfl
  | some k => have := (parseF_some.1 hp).2.1; rw [h] at this; cases this
theorem parseF_high {l : List UInt8} {high n : Int} (h : dfold 0 l = some n) (hn : high < n) : parseF l high = none := by
  cases hp : parseF l high with
  | none => rfl
  | some k =>
    obtain ⟨_, h2, h3⟩ := parseF_some.1 hp
    rw [h] at h2
    simp only [Option.some.injEq] at h2
    omega
theorem parseF_text {l : List UInt8} {high n : Int} (h : dfold 0 l = some n) (hn : n ≤ high) : (Lib.itoa n = l ∧ parseF l high = some n) ∨ (Lib.itoa n ≠ l ∧ parseF l high = none) := by
  obtain ⟨k1, k2, k3⟩ := (dfold0 _ _).1 h
  by_cases hl : lead l = true
  · refine .inr ⟨?_, ?_⟩
    · intro e
      have h2 := (decDigits_val n.toNat).2.2.2
      have e2 : Lib.itoa n = Lib.decDigits n.toNat := by unfold Lib.itoa; rw [if_neg (by omega)]
      rw [← e2, e, hl] at h2
      cases h2
    · unfold parseF
      rw [if_pos hl]
  · have hl' : lead l = false := by simpa using hl
    have hp : parseF l high = some n := parseF_some.2 ⟨hl', h, hn⟩
    exact .inl ⟨(itoa_parse hp).1, hp⟩

set_option maxHeartbeats 1000000 in
set_option maxRecDepth 100000 in
theorem rparse_any (s : ByteArray) (high : Int) (hs : s.size ≤ maxLen) (w : World) :
    Calls Tryz.prog 38 #[.string s, .int .i64 high] w fun e w' => e = .returned (numV (parseF s.data.toList high)) ∧ Below w.heap.size w w' := by
  unfold maxLen at hs
  go_enter Tryz.func38, Tryz.ntmps38
  go_wp2
  go_loop [6, 7] (fun v i => ∃ (k : Nat) (n : Int), k ≤ s.size ∧ i = .int .i64 k ∧ v = .int .i64 n ∧ 0 ≤ n ∧ n ≤ 9223372036854775807 ∧ dfold 0 s.data.toList = dfold n (s.data.toList.drop k)) (fun _ i => s.size - (intOf i).toNat)
  case atStart => exact ⟨0, 0, by omega, rfl, rfl, by omega, by omega, rfl⟩
  case round =>
    obtain ⟨k, n, hk, rfl, rfl, hn0, hn1, hd⟩ := hrel
    have HD := Lib.hid hd
    clear hd
    by_cases hp : k < s.size
    · have hstep := dfold_drop hp n
      obtain ⟨c, hc⟩ : ∃ c : Nat, (s[k]'hp).toNat = c := ⟨_, rfl⟩
      have hc8 : c < 256 := by rw [← hc]; exact UInt8.toNat_lt _
      rw [hc] at hstep
      have HS := Lib.hid hstep
      clear hstep
      by_cases hd1 : 48 ≤ c
      · by_cases hd2 : c ≤ 57
        · by_cases hm : n ≤ (9223372036854775807 - ((c : Int) - 48)) / 10
          · have HE := Lib.hid (HS.out.trans (if_pos ⟨hd1, hd2, hm⟩))
            clear HS
            go_wp2
            go_round
            case rel => exact ⟨k + 1, n * 10 + ((c : Int) - 48), by omega, by go_num, by first | rfl | (congr 1; omega), by omega, by omega, HD.out.trans HE.out⟩
            case measure => simp [intOf]; omega
          · have HE := Lib.hid (HS.out.trans (if_neg (fun h => hm h.2.2)))
            clear HS
            go_wp2
            go_ret2
            exact ⟨ret_num_none (parseF_none_of (HD.out.trans HE.out)), Below.refl _ _⟩
        · have HE := Lib.hid (HS.out.trans (if_neg (fun h => hd2 h.2.1)))
          clear HS
          go_wp2
          go_ret2
          exact ⟨ret_num_none (parseF_none_of (HD.out.trans HE.out)), Below.refl _ _⟩
      · have HE := Lib.hid (HS.out.trans (if_neg (fun h => hd1 h.1)))
        clear HS
        go_wp2
        go_ret2
        exact ⟨ret_num_none (parseF_none_of (HD.out.trans HE.out)), Below.refl _ _⟩
    · have HE := Lib.hid (show dfold 0 s.data.toList = some n by rw [HD.out, List.drop_eq_nil_of_le (by simp; omega)]; rfl)
      by_cases hh : high < n
      · go_wp2
        go_ret2
        exact ⟨ret_num_none (parseF_high HE.out (by omega)), Below.refl _ _⟩
      · obtain ⟨z, hz⟩ : ∃ z, bs (Lib.itoa n) = z := ⟨_, rfl⟩
        have HT := Lib.hid (show ∀ w', Calls Tryz.prog 45 #[.int .i64 n] w' fun e w'' => e = .returned (.string z) ∧ Below w'.heap.size w' w'' from fun w' => hz ▸ rtext_any (by omega) hn1 w')
        rcases parseF_text HE.out (show n ≤ high by omega) with ⟨e1, e2⟩ | ⟨e1, e2⟩
        · have g1 : (z.toList == s.toList) = true := by rw [← hz, e1, bs_of]; exact beq_self_eq_true _
          have g2 : (z.toList != s.toList) = false := by simp [bne, g1]
          have E2 := Lib.hid e2
          clear e1 e2 hz
          go_wp2_with (go_at_call 45; (with_reducible refine Calls.mono (HT.out _) ?_); rintro e w1 ⟨rfl, hB⟩)
          go_ret2
          exact ⟨ret_num_some E2.out, hB⟩
        · have g1 : (z.toList == s.toList) = false := by
            rw [← hz, beq_eq_false_iff_ne, ByteArray.toList_eq, ByteArray.toList_eq, bs_list]
            exact e1
          have g2 : (z.toList != s.toList) = true := by simp [bne, g1]
          have E2 := Lib.hid e2
          clear e1 e2 hz
          go_wp2_with (go_at_call 45; (with_reducible refine Calls.mono (HT.out _) ?_); rintro e w1 ⟨rfl, hB⟩)
          go_ret2
          exact ⟨ret_num_none E2.out, hB⟩
end Go.Proofs.YtcclfmaockapjaaGreatDoor
