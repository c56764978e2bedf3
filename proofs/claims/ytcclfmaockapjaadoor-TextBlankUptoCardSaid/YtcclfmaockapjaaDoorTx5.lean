
/- The document's own words for the same rows (directives, numbers): contracts. No condition but on sizes. -/
import Derived.Test.YtcclfmaockapjaaDoorTx1
namespace Go.Proofs.YtcclfmaockapjaaDoor
open Go.ChangeShapes Go.WideShapes Go.ChangeAt Go.RowKit Go.Sort
set_option linter.unusedSimpArgs false
set_option linter.unusedVariables false
def gI5 (d : List Int) (i : Nat) : Int := d.getD i 0
theorem gI5_eq {d : List Int} {k : Nat} (h : k < d.length) : gI5 d k = d[k] := by simp [gI5, List.getD_eq_getElem?_getD, List.getElem?_eq_getElem h]
theorem take_nextI5 {l : List Int} {k : Nat} (h : k < l.length) : l.take (k + 1) = l.take k ++ [gI5 l k] := by
  rw [List.take_succ_eq_append_getElem h, gI5_eq h]
theorem Lst.atI5 {w : World} {B : Nat} {A : Option Addr} {n : Nat} {l : List Int} (h : Lst w B 1 A n (l.map (Value.int .i64))) (hl : l.length = n) {k : Nat} (hk : k < n) : ∃ ad, A = some ad ∧ ad.block < B ∧ w.cell? (ad.add k) = some (.int .i64 (gI5 l k)) := by
  obtain ⟨ad, e, hb, hc⟩ := h.at_ (by omega)
  refine ⟨ad, e, hb, hc _ _ ?_⟩
  rw [List.getElem?_map, List.getElem?_eq_getElem (by omega), gI5_eq (by omega)]
  rfl
set_option maxHeartbeats 1000000 in
set_option maxRecDepth 100000 in
theorem fints_any (A A' : Option Addr) (n c n' c' : Nat) (d d' : List Int) (w : World) (hd : d.length = n) (hd' : d'.length = n') (hn : n ≤ 100000) (h : Sl w w.heap.size 1 A n c (d.map (Value.int .i64))) (h' : Sl w w.heap.size 1 A' n' c' (d'.map (Value.int .i64))) :
    Calls Tryd.prog 16 #[.slice A n c, .slice A' n' c'] w fun e w' => e = .returned (.bool (decide (d = d'))) ∧ Below w.heap.size w w' := by
  have HD := Lib.hid hd
  have HD' := Lib.hid hd'
  clear hd hd'
  by_cases hl : n = n'
  · subst hl
    have HL := Lib.hid h
    have HL' := Lib.hid h'
    clear h h'
    go_enter Tryd.func16, Tryd.ntmps16
    go_wp2
    go_loopw [5] (fun iv wr => ∃ (i : Nat), iv = .int .i64 i ∧ i ≤ n ∧ Hid (d.take i = d'.take i) ∧ Below w.heap.size w wr) (fun iv _ => n - (intOf iv).toNat)
    case atStart => exact ⟨0, rfl, by omega, by simp [Hid], Below.refl _ _⟩
    case round =>
      obtain ⟨i, rfl, hi, HE, hB⟩ := hrel
      by_cases hin : i < n
      · obtain ⟨ad, rfl, hab, c0⟩ := (HL.out.below hB).lst.atI5 HD.out hin
        obtain ⟨ad', rfl, hab', c0'⟩ := (HL'.out.below hB).lst.atI5 HD'.out hin
        by_cases he : gI5 d i = gI5 d' i
        · have HE2 : Hid (d.take (i + 1) = d'.take (i + 1)) := by
            show d.take (i + 1) = d'.take (i + 1)
            rw [take_nextI5 (by rw [HD.out]; exact hin), take_nextI5 (by rw [HD'.out]; exact hin), HE.out, he]
          rw [he] at c0
          clear HE
          go_wp2_with fail
          have q_c0 := fun d os => cell_regrown c0 d os
          have q_c0' := fun d os => cell_regrown c0' d os
          try simp only [List.append]
          first | refine wp_region_text_below ?_ | refine wp_region_quiet_below (by kernel_rfl) (by kernel_rfl) ?_
          repeat (go_big_quiet_step ((fail)))
          refine wpQuiet_nil ?_
          intro _ hqw
          obtain ⟨pq, hqw⟩ := hqw
          subst hqw
          clear q_c0 q_c0'
          have hbq := hB.trans ((below_regrown wr pq.d pq.os).mono hB.size)
          clear c0 c0'
          generalize grow (redrawn wr pq.d) pq.os = wq at *
          go_wp2_with fail
          go_roundw
          case rel => exact ⟨i + 1, by go_num, by omega, HE2, hbq⟩
          case measure => simp [intOf]; omega
        · have hne : d ≠ d' := fun e => he (by rw [e])
          have hsb : ((gI5 d i) != (gI5 d' i)) = true := by simpa using he
          have HNE := Lib.hid hne
          clear hne
          generalize gI5 d i = s1 at *
          generalize gI5 d' i = s2 at *
          go_wp2_with fail
          have q_c0 := fun d os => cell_regrown c0 d os
          have q_c0' := fun d os => cell_regrown c0' d os
          try simp only [List.append]
          first | refine wp_region_text_below ?_ | refine wp_region_quiet_below (by kernel_rfl) (by kernel_rfl) ?_
          repeat (go_big_quiet_step ((fail)))
          refine wpQuiet_nil ?_
          intro _ hqw
          obtain ⟨pq, hqw⟩ := hqw
          subst hqw
          clear q_c0 q_c0'
          have hbq := hB.trans ((below_regrown wr pq.d pq.os).mono hB.size)
          clear c0 c0'
          generalize grow (redrawn wr pq.d) pq.os = wq at *
          go_wp2_with fail
          go_ret
          exact ⟨by rw [decide_eq_false HNE.out]; rfl, hbq⟩
      · have hie : i = n := by omega
        subst hie
        have hdd : d = d' := by
          have := HE.out
          rw [List.take_of_length_le (by rw [HD.out]; omega), List.take_of_length_le (by rw [HD'.out]; omega)] at this
          exact this
        have HDD := Lib.hid hdd
        clear hdd
        go_wp2_with fail
        go_ret
        exact ⟨by rw [decide_eq_true HDD.out]; rfl, hB⟩
  · have hne : d ≠ d' := fun e => hl (by rw [← HD.out, ← HD'.out, e])
    have hb : ((n : Int) != (n' : Int)) = true := by simp; omega
    have HNE := Lib.hid hne
    clear hl hne
    go_enter Tryd.func16, Tryd.ntmps16
    go_wp2
    go_ret
    exact ⟨by rw [decide_eq_false HNE.out]; rfl, Below.refl _ _⟩

set_option maxHeartbeats 4000000 in
set_option maxRecDepth 100000 in
theorem fsame_any (A A' : Option Addr) (n c n' c' : Nat) (d d' : List Dr) (w : World) (hd : d.length = n) (hd' : d'.length = n') (hn : n ≤ 100000) (h : Sl w w.heap.size 13 A n c (flatDr d)) (h' : Sl w w.heap.size 13 A' n' c' (flatDr d')) :
    Calls Tryd.prog 11 #[.slice A n c, .slice A' n' c'] w fun e w' => e = .returned (.bool (decide (d = d'))) ∧ Below w.heap.size w w' := by
  have HD := Lib.hid hd
  have HD' := Lib.hid hd'
  clear hd hd'
  by_cases hl : n = n'
  · subst hl
    have HL := Lib.hid h
    have HL' := Lib.hid h'
    clear h h'
    go_enter Tryd.func11, Tryd.ntmps11
    go_wp2
    go_loopw [5] (fun iv wr => ∃ (i : Nat), iv = .int .i64 i ∧ i ≤ n ∧ Hid (d.take i = d'.take i) ∧ Below w.heap.size w wr) (fun iv _ => n - (intOf iv).toNat)
    case atStart => exact ⟨0, rfl, by omega, by simp [Hid], Below.refl _ _⟩
    case round =>
      obtain ⟨i, rfl, hi, HE, hB⟩ := hrel
      by_cases hin : i < n
      · obtain ⟨ad, rfl, hab, c_0, c_1, c_2, c_3, c_4, c_5, c_6, c_7, c_8, c_9, c_10, c_11, c_12⟩ := (HL.out.below hB).lst.atDr HD.out hin
        obtain ⟨ad', rfl, hab', e_0, e_1, e_2, e_3, e_4, e_5, e_6, e_7, e_8, e_9, e_10, e_11, e_12⟩ := (HL'.out.below hB).lst.atDr HD'.out hin
        by_cases he : gDr d i = gDr d' i
        · have HE2 : Hid (d.take (i + 1) = d'.take (i + 1)) := by
            show d.take (i + 1) = d'.take (i + 1)
            rw [take_nextDr (by rw [HD.out]; exact hin), take_nextDr (by rw [HD'.out]; exact hin), HE.out, he]
          have hNE := fun w0 => neqDr (gDr d' i) (gDr d' i) w0
          simp only [decide_true, Bool.not_true, ne_eq, not_true_eq_false, decide_false] at hNE
          rw [he] at c_0 c_1 c_2 c_3 c_4 c_5 c_6 c_7 c_8 c_9 c_10 c_11 c_12
          generalize gDr d' i = y at *
          clear HE
          go_wp2_with fail
          have q_c_0 := fun d os => cell_regrown c_0 d os
          have q_c_1 := fun d os => cell_regrown c_1 d os
          have q_c_2 := fun d os => cell_regrown c_2 d os
          have q_c_3 := fun d os => cell_regrown c_3 d os
          have q_c_4 := fun d os => cell_regrown c_4 d os
          have q_c_5 := fun d os => cell_regrown c_5 d os
          have q_c_6 := fun d os => cell_regrown c_6 d os
          have q_c_7 := fun d os => cell_regrown c_7 d os
          have q_c_8 := fun d os => cell_regrown c_8 d os
          have q_c_9 := fun d os => cell_regrown c_9 d os
          have q_c_10 := fun d os => cell_regrown c_10 d os
          have q_c_11 := fun d os => cell_regrown c_11 d os
          have q_c_12 := fun d os => cell_regrown c_12 d os
          have q_e_0 := fun d os => cell_regrown e_0 d os
          have q_e_1 := fun d os => cell_regrown e_1 d os
          have q_e_2 := fun d os => cell_regrown e_2 d os
          have q_e_3 := fun d os => cell_regrown e_3 d os
          have q_e_4 := fun d os => cell_regrown e_4 d os
          have q_e_5 := fun d os => cell_regrown e_5 d os
          have q_e_6 := fun d os => cell_regrown e_6 d os
          have q_e_7 := fun d os => cell_regrown e_7 d os
          have q_e_8 := fun d os => cell_regrown e_8 d os
          have q_e_9 := fun d os => cell_regrown e_9 d os
          have q_e_10 := fun d os => cell_regrown e_10 d os
          have q_e_11 := fun d os => cell_regrown e_11 d os
          have q_e_12 := fun d os => cell_regrown e_12 d os
          try simp only [List.append]
          first | refine wp_region_text_below ?_ | refine wp_region_quiet_below (by kernel_rfl) (by kernel_rfl) ?_
          repeat (go_big_quiet_step ((fail)))
          refine wpQuiet_nil ?_
          intro _ hqw
          obtain ⟨pq, hqw⟩ := hqw
          subst hqw
          clear q_c_0 q_c_1 q_c_2 q_c_3 q_c_4 q_c_5 q_c_6 q_c_7 q_c_8 q_c_9 q_c_10 q_c_11 q_c_12 q_e_0 q_e_1 q_e_2 q_e_3 q_e_4 q_e_5 q_e_6 q_e_7 q_e_8 q_e_9 q_e_10 q_e_11 q_e_12
          have hbq := hB.trans ((below_regrown wr pq.d pq.os).mono hB.size)
          clear c_0 c_1 c_2 c_3 c_4 c_5 c_6 c_7 c_8 c_9 c_10 c_11 c_12 e_0 e_1 e_2 e_3 e_4 e_5 e_6 e_7 e_8 e_9 e_10 e_11 e_12 hNE
          generalize grow (redrawn wr pq.d) pq.os = wq at *
          go_wp2_with fail
          go_roundw
          case rel => exact ⟨i + 1, by go_num, by omega, HE2, hbq⟩
          case measure => simp [intOf]; omega
        · have hne : d ≠ d' := fun e => he (by rw [e])
          have hNE := fun w0 => neqDr (gDr d i) (gDr d' i) w0
          simp only [he, ne_eq, not_false_eq_true, decide_true, decide_false, Bool.not_false] at hNE
          have HNE := Lib.hid hne
          clear hne
          clear he
          generalize gDr d i = s1 at *
          generalize gDr d' i = s2 at *
          go_wp2_with fail
          have q_c_0 := fun d os => cell_regrown c_0 d os
          have q_c_1 := fun d os => cell_regrown c_1 d os
          have q_c_2 := fun d os => cell_regrown c_2 d os
          have q_c_3 := fun d os => cell_regrown c_3 d os
          have q_c_4 := fun d os => cell_regrown c_4 d os
          have q_c_5 := fun d os => cell_regrown c_5 d os
          have q_c_6 := fun d os => cell_regrown c_6 d os
          have q_c_7 := fun d os => cell_regrown c_7 d os
          have q_c_8 := fun d os => cell_regrown c_8 d os
          have q_c_9 := fun d os => cell_regrown c_9 d os
          have q_c_10 := fun d os => cell_regrown c_10 d os
          have q_c_11 := fun d os => cell_regrown c_11 d os
          have q_c_12 := fun d os => cell_regrown c_12 d os
          have q_e_0 := fun d os => cell_regrown e_0 d os
          have q_e_1 := fun d os => cell_regrown e_1 d os
          have q_e_2 := fun d os => cell_regrown e_2 d os
          have q_e_3 := fun d os => cell_regrown e_3 d os
          have q_e_4 := fun d os => cell_regrown e_4 d os
          have q_e_5 := fun d os => cell_regrown e_5 d os
          have q_e_6 := fun d os => cell_regrown e_6 d os
          have q_e_7 := fun d os => cell_regrown e_7 d os
          have q_e_8 := fun d os => cell_regrown e_8 d os
          have q_e_9 := fun d os => cell_regrown e_9 d os
          have q_e_10 := fun d os => cell_regrown e_10 d os
          have q_e_11 := fun d os => cell_regrown e_11 d os
          have q_e_12 := fun d os => cell_regrown e_12 d os
          try simp only [List.append]
          first | refine wp_region_text_below ?_ | refine wp_region_quiet_below (by kernel_rfl) (by kernel_rfl) ?_
          repeat (go_big_quiet_step ((fail)))
          refine wpQuiet_nil ?_
          intro _ hqw
          obtain ⟨pq, hqw⟩ := hqw
          subst hqw
          clear q_c_0 q_c_1 q_c_2 q_c_3 q_c_4 q_c_5 q_c_6 q_c_7 q_c_8 q_c_9 q_c_10 q_c_11 q_c_12 q_e_0 q_e_1 q_e_2 q_e_3 q_e_4 q_e_5 q_e_6 q_e_7 q_e_8 q_e_9 q_e_10 q_e_11 q_e_12
          have hbq := hB.trans ((below_regrown wr pq.d pq.os).mono hB.size)
          clear c_0 c_1 c_2 c_3 c_4 c_5 c_6 c_7 c_8 c_9 c_10 c_11 c_12 e_0 e_1 e_2 e_3 e_4 e_5 e_6 e_7 e_8 e_9 e_10 e_11 e_12 hNE
          generalize grow (redrawn wr pq.d) pq.os = wq at *
          go_wp2_with fail
          go_ret
          exact ⟨by rw [decide_eq_false HNE.out]; rfl, hbq⟩
      · have hie : i = n := by omega
        subst hie
        have hdd : d = d' := by
          have := HE.out
          rw [List.take_of_length_le (by rw [HD.out]; omega), List.take_of_length_le (by rw [HD'.out]; omega)] at this
          exact this
        have HDD := Lib.hid hdd
        clear hdd
        go_wp2_with fail
        go_ret
        exact ⟨by rw [decide_eq_true HDD.out]; rfl, hB⟩
  · have hne : d ≠ d' := fun e => hl (by rw [← HD.out, ← HD'.out, e])
    have hb : ((n : Int) != (n' : Int)) = true := by simp; omega
    have HNE := Lib.hid hne
    clear hl hne
    go_enter Tryd.func11, Tryd.ntmps11
    go_wp2
    go_ret
    exact ⟨by rw [decide_eq_false HNE.out]; rfl, Below.refl _ _⟩

end Go.Proofs.YtcclfmaockapjaaDoor
