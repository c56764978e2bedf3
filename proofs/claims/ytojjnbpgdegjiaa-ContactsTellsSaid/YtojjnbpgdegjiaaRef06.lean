/- The document's own contacts: the same, a copy. -/
import Derived.Test.YtojjnbpgdegjiaaContacts6
namespace Go.Proofs.Ytojjnbpgdegjiaa
open Go.ChangeShapes Go.WideShapes Go.ChangeAt Go.RowKit Go.Sort
set_option linter.unusedSimpArgs false
set_option linter.unusedVariables false
set_option maxHeartbeats 1000000 in
set_option maxRecDepth 100000 in
theorem rsame6_any (A A' : Option Addr) (n c n' c' : Nat) (d d' : List Co) (w : World) (hd : d.length = n) (hd' : d'.length = n') (hn : n ≤ 1000000) (h : Sl w w.heap.size 6 A n c (flatCo d)) (h' : Sl w w.heap.size 6 A' n' c' (flatCo d')) :
    Calls Try.prog 13 #[.slice A n c, .slice A' n' c'] w fun e w' => e = .returned (.bool (decide (d = d'))) ∧ Below w.heap.size w w' := by
  have HD := Lib.hid hd
  have HD' := Lib.hid hd'
  clear hd hd'
  by_cases hl : n = n'
  · subst hl
    have HL := Lib.hid h
    have HL' := Lib.hid h'
    clear h h'
    go_enter Try.func13, Try.ntmps13
    go_wp2
    go_loopw [5] (fun iv wr => ∃ (i : Nat), iv = .int .i64 i ∧ i ≤ n ∧ Hid (d.take i = d'.take i) ∧ Below w.heap.size w wr) (fun iv _ => n - (intOf iv).toNat)
    case atStart => exact ⟨0, rfl, by omega, by simp [Hid], Below.refl _ _⟩
    case round =>
      obtain ⟨i, rfl, hi, HE, hB⟩ := hrel
      by_cases hin : i < n
      · obtain ⟨ad, rfl, hab, c0, c1, c2, c3, c4, c5⟩ := (HL.out.below hB).lst.atCo HD.out hin
        obtain ⟨ad', rfl, hab', c0', c1', c2', c3', c4', c5'⟩ := (HL'.out.below hB).lst.atCo HD'.out hin
        have hrun : ∀ w0, (binOp .neq 28 (.agg #[.int .i64 (gCo d i).id, .int .i64 (gCo d i).fr, .int .i64 (gCo d i).tn, .int .i64 (gCo d i).st, .int .i64 (gCo d i).en, .int .i64 (gCo d i).rt]) (.agg #[.int .i64 (gCo d' i).id, .int .i64 (gCo d' i).fr, .int .i64 (gCo d' i).tn, .int .i64 (gCo d' i).st, .int .i64 (gCo d' i).en, .int .i64 (gCo d' i).rt])).run Try.prog w0 = .ok (.bool (!decide (gCo d i = gCo d' i))) w0 := fun w0 => neqCo (gCo d i) (gCo d' i) w0
        by_cases he : gCo d i = gCo d' i
        · have HE2 : Hid (d.take (i + 1) = d'.take (i + 1)) := by
            show d.take (i + 1) = d'.take (i + 1)
            rw [take_nextCo (by rw [HD.out]; exact hin), take_nextCo (by rw [HD'.out]; exact hin), HE.out, he]
          rw [decide_eq_true he] at hrun
          simp only [Bool.not_true] at hrun
          clear HE he
          go_wp2_with fail
          have q_c0 := fun d os => cell_regrown c0 d os
          have q_c1 := fun d os => cell_regrown c1 d os
          have q_c2 := fun d os => cell_regrown c2 d os
          have q_c3 := fun d os => cell_regrown c3 d os
          have q_c4 := fun d os => cell_regrown c4 d os
          have q_c5 := fun d os => cell_regrown c5 d os
          have q_c0' := fun d os => cell_regrown c0' d os
          have q_c1' := fun d os => cell_regrown c1' d os
          have q_c2' := fun d os => cell_regrown c2' d os
          have q_c3' := fun d os => cell_regrown c3' d os
          have q_c4' := fun d os => cell_regrown c4' d os
          have q_c5' := fun d os => cell_regrown c5' d os
          try simp only [List.append]
          first | refine wp_region_text_below ?_ | refine wp_region_quiet_below (by kernel_rfl) (by kernel_rfl) ?_
          repeat (go_big_quiet_step ((fail)))
          refine wpQuiet_nil ?_
          intro _ hqw
          obtain ⟨pq, hqw⟩ := hqw
          subst hqw
          clear q_c0 q_c1 q_c2 q_c3 q_c4 q_c5 q_c0' q_c1' q_c2' q_c3' q_c4' q_c5'
          have hbq := hB.trans ((below_regrown wr pq.d pq.os).mono hB.size)
          clear c0 c1 c2 c3 c4 c5 c0' c1' c2' c3' c4' c5' hrun
          generalize grow (redrawn wr pq.d) pq.os = wq at *
          go_wp2_with fail
          go_roundw
          case rel => exact ⟨i + 1, by go_num, by omega, HE2, hbq⟩
          case measure => simp [intOf]; omega
        · have hne : d ≠ d' := fun e => he (by rw [e])
          have HNE := Lib.hid hne
          rw [decide_eq_false he] at hrun
          simp only [Bool.not_false] at hrun
          clear hne he
          go_wp2_with fail
          have q_c0 := fun d os => cell_regrown c0 d os
          have q_c1 := fun d os => cell_regrown c1 d os
          have q_c2 := fun d os => cell_regrown c2 d os
          have q_c3 := fun d os => cell_regrown c3 d os
          have q_c4 := fun d os => cell_regrown c4 d os
          have q_c5 := fun d os => cell_regrown c5 d os
          have q_c0' := fun d os => cell_regrown c0' d os
          have q_c1' := fun d os => cell_regrown c1' d os
          have q_c2' := fun d os => cell_regrown c2' d os
          have q_c3' := fun d os => cell_regrown c3' d os
          have q_c4' := fun d os => cell_regrown c4' d os
          have q_c5' := fun d os => cell_regrown c5' d os
          try simp only [List.append]
          first | refine wp_region_text_below ?_ | refine wp_region_quiet_below (by kernel_rfl) (by kernel_rfl) ?_
          repeat (go_big_quiet_step ((fail)))
          refine wpQuiet_nil ?_
          intro _ hqw
          obtain ⟨pq, hqw⟩ := hqw
          subst hqw
          clear q_c0 q_c1 q_c2 q_c3 q_c4 q_c5 q_c0' q_c1' q_c2' q_c3' q_c4' q_c5'
          have hbq := hB.trans ((below_regrown wr pq.d pq.os).mono hB.size)
          clear c0 c1 c2 c3 c4 c5 c0' c1' c2' c3' c4' c5' hrun
          generalize grow (redrawn wr pq.d) pq.os = wq at *
          go_wp2_with fail
          go_ret
          exact ⟨by rw [decide_eq_false HNE.out]; rfl, hbq⟩
      · have hie : i = n := by omega
        subst hie
        have hdd : d = d' := by
          have := HE.out
          rw [List.take_of_length_le (by rw [HD.out]; omega), List.take_of_length_le (by rw [HD'.out]; omega)] at this
          exact this
        have HDD := Lib.hid hdd
        clear hdd
        go_wp2_with fail
        go_ret
        exact ⟨by rw [decide_eq_true HDD.out]; rfl, hB⟩
  · have hne : d ≠ d' := fun e => hl (by rw [← HD.out, ← HD'.out, e])
    have hb : ((n : Int) != (n' : Int)) = true := by simp; omega
    have HNE := Lib.hid hne
    clear hl hne
    go_enter Try.func13, Try.ntmps13
    go_wp2
    go_ret
    exact ⟨by rw [decide_eq_false HNE.out]; rfl, Below.refl _ _⟩
set_option maxHeartbeats 1000000 in
set_option maxRecDepth 100000 in
theorem rcopy6_any (A : Option Addr) (n c : Nat) (d : List Co) (w : World) (hd : d.length = n) (hn : n ≤ 1000000) (h : Sl w w.heap.size 6 A n c (flatCo d)) :
    Calls Try.prog 14 #[.slice A n c] w fun e w' => ∃ v, e = .returned v ∧ w'.ownsRow w.heap.size 28 6 v n (flatCo d) ∧ Below w.heap.size w w' := by
  obtain ⟨i0, hi0, hz0, hz1, hz2⟩ := info_parts infoCo
  go_enter Try.func14, Try.ntmps14
  go_wp2_with (first
    | (at_builtin
       refine wpList_append_lst _ rfl (.tmp 3) (.tmp 4) 22 rfl w.heap.size 28 i0 _ 6 48 Try.underlying22 hi0 hz0 hz1 hz2 rfl (by decide) (.slice (some ⟨w.heap.size, 0, none⟩) 0 0) 0 [] rfl (World.ownsRow_made w #[] 0 (Nat.le_refl _) (by simp) (by simp)) w.heap.size A n c (flatCo d) rfl (h.lst.below ((Below.refl _ _).alloc (Nat.le_refl _) _)) (flatCo_one _) (by unfold maxLen; omega) (by omega) (by simp) ?_
       intro v1 w1 hown hg hat))
  go_ret
  refine ⟨_, rfl, by simpa using hown, Below.grown ((Below.refl _ _).alloc (Nat.le_refl _) _) hg (by simp) (fun k hk => ?_)⟩
  simp [Value.ownBlock] at hk
  omega
end Go.Proofs.Ytojjnbpgdegjiaa
