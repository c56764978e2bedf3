/- The document's own path: Same, Hops, IDs. They make new memory alone. -/
import Derived.Test.YtbhhkaaidhapbaaGQ7
namespace Go.Proofs.Ytbhhkaaidhapbaa
open Go.ChangeShapes Go.WideShapes Go.ChangeAt Go.RowKit Go.Sort
set_option linter.unusedSimpArgs false
set_option linter.unusedVariables false
set_option maxHeartbeats 4000000 in
set_option maxRecDepth 100000 in
theorem rsame12_any (A A' : Option Addr) (n c n' c' : Nat) (d d' : List Hp) (t t' : Int) (w : World) (hd : d.length = n) (hd' : d'.length = n') (hn : n ≤ 1000000) (hn' : n' ≤ 1000000) (h : Sl w w.heap.size 3 A n c (flatHp d)) (h' : Sl w w.heap.size 3 A' n' c' (flatHp d')) (b : Bool) (hb : (decide (t = t') && decide (d = d')) = b) :
    Calls Try.prog 28 #[.agg #[.slice A n c, .int .i64 t], .agg #[.slice A' n' c', .int .i64 t']] w fun e w' => e = .returned (.bool b) ∧ Below w.heap.size w w' := by
  have hB1 : Below w.heap.size w (w.alloc (.cells #[.slice A n c, .int .i64 t] 25)) := by (repeat (first | exact Below.refl _ _ | refine Below.alloc ?_ (by first | omega | (simp; done) | (simp; omega)) _ | refine Below.setCell ?_ (by first | omega | (simp; done) | (simp; omega)) _ | refine Below.drew ?_))
  have hB : Below w.heap.size w ((w.alloc (.cells #[.slice A n c, .int .i64 t] 25)).alloc (.cells #[.slice A' n' c', .int .i64 t'] 25)) := by (repeat (first | exact Below.refl _ _ | refine Below.alloc ?_ (by first | omega | (simp; done) | (simp; omega)) _ | refine Below.setCell ?_ (by first | omega | (simp; done) | (simp; omega)) _ | refine Below.drew ?_))
  have hX := (Blok.new w 25 #[.slice A n c, .int .i64 t]).alloc (.cells #[.slice A' n' c', .int .i64 t'] 25)
  have hY := Blok.new (w.alloc (.cells #[.slice A n c, .int .i64 t] 25)) 25 #[.slice A' n' c', .int .i64 t']
  rw [World.size_alloc] at hY
  have HL := Lib.hid (h.below hB)
  have HL' := Lib.hid (h'.below hB)
  have HD := Lib.hid hd
  have HD' := Lib.hid hd'
  have HBB := Lib.hid hb
  clear hd hd' h h' hb hB1
  by_cases hne : n ≠ n' ∨ t ≠ t'
  · have hf : b = false := by
      rw [← HBB.out]
      rcases hne with h1 | h1
      · have : d ≠ d' := fun e => by rw [e] at HD; exact h1 (HD.out.symm.trans HD'.out)
        simp [this]
      · simp [h1]
    subst hf
    by_cases hnn : n = n'
    · subst hnn
      have ht : t ≠ t' := by rcases hne with h1 | h1; · exact absurd rfl h1
                             · exact h1
      have g1 : (t != t') = true := by simp [ht]
      have g2 : ((n : Int) != (n : Int)) = false := by simp
      clear hne ht
      go_enter Try.func28, Try.ntmps28
      go_wp2
      go_ret
      exact ⟨rfl, hB⟩
    · have g2 : ((n : Int) != (n' : Int)) = true := by simp; omega
      clear hne
      go_enter Try.func28, Try.ntmps28
      go_wp2
      go_ret
      exact ⟨rfl, hB⟩
  · obtain rfl : n = n' := by omega
    obtain rfl : t = t' := by omega
    have g1 : (t != t) = false := by simp
    have g2 : ((n : Int) != (n : Int)) = false := by simp
    clear hne
    go_enter Try.func28, Try.ntmps28
    go_wp2
    clear g1 g2
    generalize (w.alloc (.cells #[.slice A n c, .int .i64 t] 25)).alloc (.cells #[.slice A' n c', .int .i64 t] 25) = w2 at *
    have HX := Lib.hid hX
    have HY := Lib.hid hY
    have HB := Lib.hid hB
    clear hX hY hB
    go_loopw [5] (fun iv wr => ∃ (i : Nat), iv = .int .i64 i ∧ i ≤ n ∧ Hid (d.take i = d'.take i) ∧ Below w2.heap.size w2 wr) (fun iv _ => n - (intOf iv).toNat)
    case atStart => exact ⟨0, rfl, by omega, by simp [Hid], Below.refl _ _⟩
    case round =>
      obtain ⟨i, rfl, hi, HE, hBr⟩ := hrel
      have hX := HX.out.below hBr HX.out.lt
      have hY := HY.out.below hBr HY.out.lt
      have x0 : wr.cell? ⟨w.heap.size, 0, none⟩ = some (.slice A n c) := hX.cell 0
      have x1 : wr.cell? ⟨w.heap.size, 1, none⟩ = some (.int .i64 t) := hX.cell 1
      have y0 : wr.cell? ⟨w.heap.size + 1, 0, none⟩ = some (.slice A' n c') := hY.cell 0
      have y1 : wr.cell? ⟨w.heap.size + 1, 1, none⟩ = some (.int .i64 t) := hY.cell 1
      have lt_x := hX.lt
      have lt_y := hY.lt
      clear hX hY
      have hbw := hBr.mono HB.out.size
      by_cases hin : i < n
      · obtain ⟨ad, rfl, hab, c0, c1, c2⟩ := (HL.out.below hbw).lst.atHp HD.out hin
        obtain ⟨ad', rfl, hab', c0', c1', c2'⟩ := (HL'.out.below hbw).lst.atHp HD'.out hin
        have hrun : ∀ w0, (binOp .neq 34 (.agg #[.int .i64 (gHp d i).id, .int .i64 (gHp d i).se, .int .i64 (gHp d i).ar]) (.agg #[.int .i64 (gHp d' i).id, .int .i64 (gHp d' i).se, .int .i64 (gHp d' i).ar])).run Try.prog w0 = .ok (.bool (!decide (gHp d i = gHp d' i))) w0 := fun w0 => neqHp (gHp d i) (gHp d' i) w0
        by_cases he : gHp d i = gHp d' i
        · have HE2 : Hid (d.take (i + 1) = d'.take (i + 1)) := by
            show d.take (i + 1) = d'.take (i + 1)
            rw [take_nextHp (by rw [HD.out]; exact hin), take_nextHp (by rw [HD'.out]; exact hin), HE.out, he]
          rw [decide_eq_true he] at hrun
          simp only [Bool.not_true] at hrun
          clear HE he hbw
          go_wp2_with fail
          have q_c0 := fun d os => cell_regrown c0 d os
          have q_c1 := fun d os => cell_regrown c1 d os
          have q_c2 := fun d os => cell_regrown c2 d os
          have q_c0' := fun d os => cell_regrown c0' d os
          have q_c1' := fun d os => cell_regrown c1' d os
          have q_c2' := fun d os => cell_regrown c2' d os
          have q_x0 := fun d os => cell_regrown x0 d os
          have q_x1 := fun d os => cell_regrown x1 d os
          have q_y0 := fun d os => cell_regrown y0 d os
          have q_y1 := fun d os => cell_regrown y1 d os
          try simp only [List.append]
          first | refine wp_region_text_below ?_ | refine wp_region_quiet_below (by kernel_rfl) (by kernel_rfl) ?_
          repeat (go_big_quiet_step ((fail)))
          refine wpQuiet_nil ?_
          intro _ hqw
          obtain ⟨pq, hqw⟩ := hqw
          subst hqw
          clear q_c0 q_c1 q_c2 q_c0' q_c1' q_c2' q_x0 q_x1 q_y0 q_y1
          have hbq := hBr.trans ((below_regrown wr pq.d pq.os).mono hBr.size)
          clear c0 c1 c2 c0' c1' c2' x0 x1 y0 y1 hrun lt_x lt_y hBr
          generalize grow (redrawn wr pq.d) pq.os = wq at *
          go_wp2_with fail
          go_roundw
          case rel => exact ⟨i + 1, by go_num, by omega, HE2, hbq⟩
          case measure => simp [intOf]; omega
        · have hf : b = false := by
            have : d ≠ d' := fun e => he (by rw [e])
            rw [← HBB.out]; simp [this]
          subst hf
          rw [decide_eq_false he] at hrun
          simp only [Bool.not_false] at hrun
          clear he hbw
          go_wp2_with fail
          have q_c0 := fun d os => cell_regrown c0 d os
          have q_c1 := fun d os => cell_regrown c1 d os
          have q_c2 := fun d os => cell_regrown c2 d os
          have q_c0' := fun d os => cell_regrown c0' d os
          have q_c1' := fun d os => cell_regrown c1' d os
          have q_c2' := fun d os => cell_regrown c2' d os
          have q_x0 := fun d os => cell_regrown x0 d os
          have q_x1 := fun d os => cell_regrown x1 d os
          have q_y0 := fun d os => cell_regrown y0 d os
          have q_y1 := fun d os => cell_regrown y1 d os
          try simp only [List.append]
          first | refine wp_region_text_below ?_ | refine wp_region_quiet_below (by kernel_rfl) (by kernel_rfl) ?_
          repeat (go_big_quiet_step ((fail)))
          refine wpQuiet_nil ?_
          intro _ hqw
          obtain ⟨pq, hqw⟩ := hqw
          subst hqw
          clear q_c0 q_c1 q_c2 q_c0' q_c1' q_c2' q_x0 q_x1 q_y0 q_y1
          have hbq := hBr.trans ((below_regrown wr pq.d pq.os).mono hBr.size)
          clear c0 c1 c2 c0' c1' c2' x0 x1 y0 y1 hrun lt_x lt_y hBr
          generalize grow (redrawn wr pq.d) pq.os = wq at *
          go_wp2_with fail
          go_ret
          exact ⟨rfl, HB.out.trans (hbq.mono HB.out.size)⟩
      · have hie : i = n := by omega
        have hf : b = true := by
          have he := HE.out
          rw [List.take_of_length_le (by rw [HD.out]; omega), List.take_of_length_le (by rw [HD'.out]; omega)] at he
          rw [← HBB.out, he]; simp
        subst hf
        subst hie
        go_wp2_with fail
        go_ret
        exact ⟨rfl, HB.out.trans hbw⟩
end Go.Proofs.Ytbhhkaaidhapbaa
