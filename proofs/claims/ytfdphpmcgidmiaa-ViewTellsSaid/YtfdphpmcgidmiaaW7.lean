/- Contracts and plain facts, several texts of mine in one: Ref11. No condition. -/
import Derived.Test.YtfdphpmcgidmiaaW6

/- The document's own edges: Same, Find, From, Edge. -/
namespace Go.Proofs.Ytfdphpmcgidmiaa
open Go.ChangeShapes Go.WideShapes Go.ChangeAt Go.RowKit Go.Sort
set_option linter.unusedSimpArgs false
set_option linter.unusedVariables false
set_option maxHeartbeats 1000000 in
set_option maxRecDepth 100000 in
theorem rsame11_any (A A' : Option Addr) (n c n' c' : Nat) (d d' : List Ed) (w : World) (hd : d.length = n) (hd' : d'.length = n') (hn : n ≤ 1000000) (h : Sl w w.heap.size 8 A n c (flatEd d)) (h' : Sl w w.heap.size 8 A' n' c' (flatEd d')) :
    Calls Try.prog 17 #[.slice A n c, .slice A' n' c'] w fun e w' => e = .returned (.bool (decide (d = d'))) ∧ Below w.heap.size w w' := by
  have HD := Lib.hid hd
  have HD' := Lib.hid hd'
  clear hd hd'
  by_cases hl : n = n'
  · subst hl
    have HL := Lib.hid h
    have HL' := Lib.hid h'
    clear h h'
    go_enter Try.func17, Try.ntmps17
    go_wp2
    go_loopw [5] (fun iv wr => ∃ (i : Nat), iv = .int .i64 i ∧ i ≤ n ∧ Hid (d.take i = d'.take i) ∧ Below w.heap.size w wr) (fun iv _ => n - (intOf iv).toNat)
    case atStart => exact ⟨0, rfl, by omega, by simp [Hid], Below.refl _ _⟩
    case round =>
      obtain ⟨i, rfl, hi, HE, hB⟩ := hrel
      by_cases hin : i < n
      · obtain ⟨ad, rfl, hab, c0, c1, c2, c3, c4, c5, c6, c7⟩ := (HL.out.below hB).lst.atEd HD.out hin
        obtain ⟨ad', rfl, hab', c0', c1', c2', c3', c4', c5', c6', c7'⟩ := (HL'.out.below hB).lst.atEd HD'.out hin
        have hrun : ∀ w0, (binOp .neq 34 (.agg #[.int .i64 (gEd d i).id, .int .i64 (gEd d i).fr, .int .i64 (gEd d i).tn, .int .i64 (gEd d i).op, .int .i64 (gEd d i).en, .int .i64 (gEd d i).ra, .int .i64 (gEd d i).ow, .int .i64 (gEd d i).ro]) (.agg #[.int .i64 (gEd d' i).id, .int .i64 (gEd d' i).fr, .int .i64 (gEd d' i).tn, .int .i64 (gEd d' i).op, .int .i64 (gEd d' i).en, .int .i64 (gEd d' i).ra, .int .i64 (gEd d' i).ow, .int .i64 (gEd d' i).ro])).run Try.prog w0 = .ok (.bool (!decide (gEd d i = gEd d' i))) w0 := fun w0 => neqEd (gEd d i) (gEd d' i) w0
        by_cases he : gEd d i = gEd d' i
        · have HE2 : Hid (d.take (i + 1) = d'.take (i + 1)) := by
            show d.take (i + 1) = d'.take (i + 1)
            rw [take_nextEd (by rw [HD.out]; exact hin), take_nextEd (by rw [HD'.out]; exact hin), HE.out, he]
          rw [decide_eq_true he] at hrun
          simp only [Bool.not_true] at hrun
          clear HE he
          go_wp2_with fail
          have q_c0 := fun d os => cell_regrown c0 d os
          have q_c1 := fun d os => cell_regrown c1 d os
          have q_c2 := fun d os => cell_regrown c2 d os
          have q_c3 := fun d os => cell_regrown c3 d os
          have q_c4 := fun d os => cell_regrown c4 d os
          have q_c5 := fun d os => cell_regrown c5 d os
          have q_c6 := fun d os => cell_regrown c6 d os
          have q_c7 := fun d os => cell_regrown c7 d os
          have q_c0' := fun d os => cell_regrown c0' d os
          have q_c1' := fun d os => cell_regrown c1' d os
          have q_c2' := fun d os => cell_regrown c2' d os
          have q_c3' := fun d os => cell_regrown c3' d os
          have q_c4' := fun d os => cell_regrown c4' d os
          have q_c5' := fun d os => cell_regrown c5' d os
          have q_c6' := fun d os => cell_regrown c6' d os
          have q_c7' := fun d os => cell_regrown c7' d os
          try simp only [List.append]
          first | refine wp_region_text_below ?_ | refine wp_region_quiet_below (by kernel_rfl) (by kernel_rfl) ?_
          repeat (go_big_quiet_step ((fail)))
          refine wpQuiet_nil ?_
          intro _ hqw
          obtain ⟨pq, hqw⟩ := hqw
          subst hqw
          clear q_c0 q_c1 q_c2 q_c3 q_c4 q_c5 q_c6 q_c7 q_c0' q_c1' q_c2' q_c3' q_c4' q_c5' q_c6' q_c7'
          have hbq := hB.trans ((below_regrown wr pq.d pq.os).mono hB.size)
          clear c0 c1 c2 c3 c4 c5 c6 c7 c0' c1' c2' c3' c4' c5' c6' c7' hrun
          generalize grow (redrawn wr pq.d) pq.os = wq at *
          go_wp2_with fail
          go_roundw
          case rel => exact ⟨i + 1, by go_num, by omega, HE2, hbq⟩
          case measure => simp [intOf]; omega
        · have hne : d ≠ d' := fun e => he (by rw [e])
          have HNE := Lib.hid hne
          rw [decide_eq_false he] at hrun
          simp only [Bool.not_false] at hrun
          clear hne he
          go_wp2_with fail
          have q_c0 := fun d os => cell_regrown c0 d os
          have q_c1 := fun d os => cell_regrown c1 d os
          have q_c2 := fun d os => cell_regrown c2 d os
          have q_c3 := fun d os => cell_regrown c3 d os
          have q_c4 := fun d os => cell_regrown c4 d os
          have q_c5 := fun d os => cell_regrown c5 d os
          have q_c6 := fun d os => cell_regrown c6 d os
          have q_c7 := fun d os => cell_regrown c7 d os
          have q_c0' := fun d os => cell_regrown c0' d os
          have q_c1' := fun d os => cell_regrown c1' d os
          have q_c2' := fun d os => cell_regrown c2' d os
          have q_c3' := fun d os => cell_regrown c3' d os
          have q_c4' := fun d os => cell_regrown c4' d os
          have q_c5' := fun d os => cell_regrown c5' d os
          have q_c6' := fun d os => cell_regrown c6' d os
          have q_c7' := fun d os => cell_regrown c7' d os
          try simp only [List.append]
          first | refine wp_region_text_below ?_ | refine wp_region_quiet_below (by kernel_rfl) (by kernel_rfl) ?_
          repeat (go_big_quiet_step ((fail)))
          refine wpQuiet_nil ?_
          intro _ hqw
          obtain ⟨pq, hqw⟩ := hqw
          subst hqw
          clear q_c0 q_c1 q_c2 q_c3 q_c4 q_c5 q_c6 q_c7 q_c0' q_c1' q_c2' q_c3' q_c4' q_c5' q_c6' q_c7'
          have hbq := hB.trans ((below_regrown wr pq.d pq.os).mono hB.size)
          clear c0 c1 c2 c3 c4 c5 c6 c7 c0' c1' c2' c3' c4' c5' c6' c7' hrun
          generalize grow (redrawn wr pq.d) pq.os = wq at *
          go_wp2_with fail
          go_ret
          exact ⟨by rw [decide_eq_false HNE.out]; rfl, hbq⟩
      · have hie : i = n := by omega
        subst hie
        have hdd : d = d' := by
          have := HE.out
          rw [List.take_of_length_le (by rw [HD.out]; omega), List.take_of_length_le (by rw [HD'.out]; omega)] at this
          exact this
        have HDD := Lib.hid hdd
        clear hdd
        go_wp2_with fail
        go_ret
        exact ⟨by rw [decide_eq_true HDD.out]; rfl, hB⟩
  · have hne : d ≠ d' := fun e => hl (by rw [← HD.out, ← HD'.out, e])
    have hb : ((n : Int) != (n' : Int)) = true := by simp; omega
    have HNE := Lib.hid hne
    clear hl hne
    go_enter Try.func17, Try.ntmps17
    go_wp2
    go_ret
    exact ⟨by rw [decide_eq_false HNE.out]; rfl, Below.refl _ _⟩
set_option maxHeartbeats 1000000 in
set_option maxRecDepth 100000 in
theorem rfind11_any (A : Option Addr) (n c : Nat) (d : List Ed) (id : Int) (w : World) (hd : d.length = n) (hn : n ≤ 1000000) (h : Sl w w.heap.size 8 A n c (flatEd d)) (x : Ed) (b : Bool) (hx : (findE d id).getD zeroEd = x) (hb : (findE d id).isSome = b) :
    Calls Try.prog 15 #[.slice A n c, .int .i64 id] w fun e w' => e = .returned (.tuple #[.agg #[.int .i64 x.id, .int .i64 x.fr, .int .i64 x.tn, .int .i64 x.op, .int .i64 x.en, .int .i64 x.ra, .int .i64 x.ow, .int .i64 x.ro], .bool b]) ∧ Below w.heap.size w w' := by
  have hBa : Below w.heap.size w (w.alloc (.cells #[.int .i64 0, .int .i64 0, .int .i64 0, .int .i64 0, .int .i64 0, .int .i64 0, .int .i64 0, .int .i64 0] 34)) := by (repeat (first | exact Below.refl _ _ | refine Below.alloc ?_ (by first | omega | (simp; done) | (simp; omega)) _ | refine Below.setCell ?_ (by first | omega | (simp; done) | (simp; omega)) _ | refine Below.drew ?_))
  have hX := Blok.new w 34 #[.int .i64 0, .int .i64 0, .int .i64 0, .int .i64 0, .int .i64 0, .int .i64 0, .int .i64 0, .int .i64 0]
  have hl := h.up hBa
  have HD := Lib.hid hd
  have HXX := Lib.hid hx
  have HBX := Lib.hid hb
  clear h hd hx hb
  go_enter Try.func15, Try.ntmps15
  go_wp2
  generalize w.alloc (.cells #[.int .i64 0, .int .i64 0, .int .i64 0, .int .i64 0, .int .i64 0, .int .i64 0, .int .i64 0, .int .i64 0] 34) = w2 at *
  have HL := Lib.hid hl
  have HX := Lib.hid hX
  have HB := Lib.hid hBa
  clear hl hX hBa
  go_loopw [6] (fun iv wr => ∃ (i : Nat), iv = .int .i64 i ∧ i ≤ n ∧ Hid (∀ j, j < i → (gEd d j).id ≠ id) ∧ w2 = wr) (fun iv _ => n - (intOf iv).toNat)
  case atStart => exact ⟨0, rfl, by omega, fun j hj => by omega, rfl⟩
  case round =>
    obtain ⟨i, rfl, hi, HN, rfl⟩ := hrel
    have hX := HX.out
    have hBa := HB.out
    have hlt := hX.lt
    by_cases hin : i < n
    · obtain ⟨ad, rfl, hab, c0, c1, c2, c3, c4, c5, c6, c7⟩ := HL.out.lst.atEd HD.out hin
      by_cases he : (gEd d i).id = id
      · have hff := findE_at (by rw [HD.out]; exact hin) he HN.out
        have f1 : x = gEd d i := by rw [← HXX.out, hff]; rfl
        have f2 : b = true := by rw [← HBX.out, hff]; rfl
        clear hff
        subst f2
        have hq : ((gEd d i).id == id) = true := beq_iff_eq.2 he
        rw [← f1] at c0 c1 c2 c3 c4 c5 c6 c7 hq
        have HXB := Lib.hid hX
        have r0 : w2.cell? ⟨w.heap.size, 0, none⟩ = some (.int .i64 0) := hX.cell 0
        have f_0 := hX.free 0
        have r1 : w2.cell? ⟨w.heap.size, 1, none⟩ = some (.int .i64 0) := hX.cell 1
        have f_1 := hX.free 1
        have r2 : w2.cell? ⟨w.heap.size, 2, none⟩ = some (.int .i64 0) := hX.cell 2
        have f_2 := hX.free 2
        have r3 : w2.cell? ⟨w.heap.size, 3, none⟩ = some (.int .i64 0) := hX.cell 3
        have f_3 := hX.free 3
        have r4 : w2.cell? ⟨w.heap.size, 4, none⟩ = some (.int .i64 0) := hX.cell 4
        have f_4 := hX.free 4
        have r5 : w2.cell? ⟨w.heap.size, 5, none⟩ = some (.int .i64 0) := hX.cell 5
        have f_5 := hX.free 5
        have r6 : w2.cell? ⟨w.heap.size, 6, none⟩ = some (.int .i64 0) := hX.cell 6
        have f_6 := hX.free 6
        have r7 : w2.cell? ⟨w.heap.size, 7, none⟩ = some (.int .i64 0) := hX.cell 7
        have f_7 := hX.free 7
        clear he f1 HX HB hX
        go_wp2
        have hX := HXB.out
        clear r0 r1 r2 r3 r4 r5 r6 r7
        have hF : Blok ((((((((w2.setCell ⟨w.heap.size, 0, none⟩ (.int .i64 x.id)).setCell ⟨w.heap.size, 1, none⟩ (.int .i64 x.fr)).setCell ⟨w.heap.size, 2, none⟩ (.int .i64 x.tn)).setCell ⟨w.heap.size, 3, none⟩ (.int .i64 x.op)).setCell ⟨w.heap.size, 4, none⟩ (.int .i64 x.en)).setCell ⟨w.heap.size, 5, none⟩ (.int .i64 x.ra)).setCell ⟨w.heap.size, 6, none⟩ (.int .i64 x.ow)).setCell ⟨w.heap.size, 7, none⟩ (.int .i64 x.ro)) w.heap.size 34 #[.int .i64 x.id, .int .i64 x.fr, .int .i64 x.tn, .int .i64 x.op, .int .i64 x.en, .int .i64 x.ra, .int .i64 x.ow, .int .i64 x.ro] := by have h := ((((((((hX.set_ 0 (.int .i64 x.id)).set_ 1 (.int .i64 x.fr)).set_ 2 (.int .i64 x.tn)).set_ 3 (.int .i64 x.op)).set_ 4 (.int .i64 x.en)).set_ 5 (.int .i64 x.ra)).set_ 6 (.int .i64 x.ow)).set_ 7 (.int .i64 x.ro)); simpa using h
        have hle0 : w.heap.size ≤ w.heap.size := by first | exact Nat.le_refl _ | omega
        have hWf : Below w.heap.size w ((((((((w2.setCell ⟨w.heap.size, 0, none⟩ (.int .i64 x.id)).setCell ⟨w.heap.size, 1, none⟩ (.int .i64 x.fr)).setCell ⟨w.heap.size, 2, none⟩ (.int .i64 x.tn)).setCell ⟨w.heap.size, 3, none⟩ (.int .i64 x.op)).setCell ⟨w.heap.size, 4, none⟩ (.int .i64 x.en)).setCell ⟨w.heap.size, 5, none⟩ (.int .i64 x.ra)).setCell ⟨w.heap.size, 6, none⟩ (.int .i64 x.ow)).setCell ⟨w.heap.size, 7, none⟩ (.int .i64 x.ro)) := ((((((((hBa.setCell (p := ⟨w.heap.size, 0, none⟩) hle0 (.int .i64 x.id)).setCell (p := ⟨w.heap.size, 1, none⟩) hle0 (.int .i64 x.fr)).setCell (p := ⟨w.heap.size, 2, none⟩) hle0 (.int .i64 x.tn)).setCell (p := ⟨w.heap.size, 3, none⟩) hle0 (.int .i64 x.op)).setCell (p := ⟨w.heap.size, 4, none⟩) hle0 (.int .i64 x.en)).setCell (p := ⟨w.heap.size, 5, none⟩) hle0 (.int .i64 x.ra)).setCell (p := ⟨w.heap.size, 6, none⟩) hle0 (.int .i64 x.ow)).setCell (p := ⟨w.heap.size, 7, none⟩) hle0 (.int .i64 x.ro))
        have hlF := hF.lt
        generalize ((((((((w2.setCell ⟨w.heap.size, 0, none⟩ (.int .i64 x.id)).setCell ⟨w.heap.size, 1, none⟩ (.int .i64 x.fr)).setCell ⟨w.heap.size, 2, none⟩ (.int .i64 x.tn)).setCell ⟨w.heap.size, 3, none⟩ (.int .i64 x.op)).setCell ⟨w.heap.size, 4, none⟩ (.int .i64 x.en)).setCell ⟨w.heap.size, 5, none⟩ (.int .i64 x.ra)).setCell ⟨w.heap.size, 6, none⟩ (.int .i64 x.ow)).setCell ⟨w.heap.size, 7, none⟩ (.int .i64 x.ro)) = wf at *
        have r0 : wf.cell? ⟨w.heap.size, 0, none⟩ = some (.int .i64 x.id) := hF.cell 0
        have r1 : wf.cell? ⟨w.heap.size, 1, none⟩ = some (.int .i64 x.fr) := hF.cell 1
        have r2 : wf.cell? ⟨w.heap.size, 2, none⟩ = some (.int .i64 x.tn) := hF.cell 2
        have r3 : wf.cell? ⟨w.heap.size, 3, none⟩ = some (.int .i64 x.op) := hF.cell 3
        have r4 : wf.cell? ⟨w.heap.size, 4, none⟩ = some (.int .i64 x.en) := hF.cell 4
        have r5 : wf.cell? ⟨w.heap.size, 5, none⟩ = some (.int .i64 x.ra) := hF.cell 5
        have r6 : wf.cell? ⟨w.heap.size, 6, none⟩ = some (.int .i64 x.ow) := hF.cell 6
        have r7 : wf.cell? ⟨w.heap.size, 7, none⟩ = some (.int .i64 x.ro) := hF.cell 7
        refine bodyPost_ret (v := .tuple #[.agg #[.int .i64 x.id, .int .i64 x.fr, .int .i64 x.tn, .int .i64 x.op, .int .i64 x.en, .int .i64 x.ra, .int .i64 x.ow, .int .i64 x.ro], .bool true]) (by simp [results, Try.results15, go_sem, r0, r1, r2, r3, r4, r5, r6, r7, hlF]) rfl ?_
        exact ⟨rfl, hWf⟩
      · have hq : ((gEd d i).id == id) = false := beq_eq_false_iff_ne.2 he
        have HN2 : Hid (∀ j, j < i + 1 → (gEd d j).id ≠ id) := fun j hj => by
          by_cases e : j = i
          · subst e; exact he
          · exact HN.out j (by omega)
        clear he hX
        go_wp2_with fail
        go_roundw
        case rel => exact ⟨i + 1, by go_num, by omega, HN2, by first | rfl | trivial⟩
        case measure => simp [intOf]; omega
    · have hff := findE_none (l := d) (id := id) (fun j hj => HN.out j (by rw [HD.out] at hj; omega))
      have f1 : x = zeroEd := by rw [← HXX.out, hff]; rfl
      have f2 : b = false := by rw [← HBX.out, hff]; rfl
      clear hff
      subst f1 f2
      have HXB := Lib.hid hX
      have r0 : w2.cell? ⟨w.heap.size, 0, none⟩ = some (.int .i64 0) := hX.cell 0
      have f_0 := hX.free 0
      have r1 : w2.cell? ⟨w.heap.size, 1, none⟩ = some (.int .i64 0) := hX.cell 1
      have f_1 := hX.free 1
      have r2 : w2.cell? ⟨w.heap.size, 2, none⟩ = some (.int .i64 0) := hX.cell 2
      have f_2 := hX.free 2
      have r3 : w2.cell? ⟨w.heap.size, 3, none⟩ = some (.int .i64 0) := hX.cell 3
      have f_3 := hX.free 3
      have r4 : w2.cell? ⟨w.heap.size, 4, none⟩ = some (.int .i64 0) := hX.cell 4
      have f_4 := hX.free 4
      have r5 : w2.cell? ⟨w.heap.size, 5, none⟩ = some (.int .i64 0) := hX.cell 5
      have f_5 := hX.free 5
      have r6 : w2.cell? ⟨w.heap.size, 6, none⟩ = some (.int .i64 0) := hX.cell 6
      have f_6 := hX.free 6
      have r7 : w2.cell? ⟨w.heap.size, 7, none⟩ = some (.int .i64 0) := hX.cell 7
      have f_7 := hX.free 7
      clear hX HN
      go_wp2
      have hX := HXB.out
      clear r0 r1 r2 r3 r4 r5 r6 r7
      have hF : Blok ((((((((w2.setCell ⟨w.heap.size, 0, none⟩ (.int .i64 0)).setCell ⟨w.heap.size, 1, none⟩ (.int .i64 0)).setCell ⟨w.heap.size, 2, none⟩ (.int .i64 0)).setCell ⟨w.heap.size, 3, none⟩ (.int .i64 0)).setCell ⟨w.heap.size, 4, none⟩ (.int .i64 0)).setCell ⟨w.heap.size, 5, none⟩ (.int .i64 0)).setCell ⟨w.heap.size, 6, none⟩ (.int .i64 0)).setCell ⟨w.heap.size, 7, none⟩ (.int .i64 0)) w.heap.size 34 #[.int .i64 0, .int .i64 0, .int .i64 0, .int .i64 0, .int .i64 0, .int .i64 0, .int .i64 0, .int .i64 0] := by have h := ((((((((hX.set_ 0 (.int .i64 0)).set_ 1 (.int .i64 0)).set_ 2 (.int .i64 0)).set_ 3 (.int .i64 0)).set_ 4 (.int .i64 0)).set_ 5 (.int .i64 0)).set_ 6 (.int .i64 0)).set_ 7 (.int .i64 0)); simpa using h
      have hle0 : w.heap.size ≤ w.heap.size := by first | exact Nat.le_refl _ | omega
      have hWf : Below w.heap.size w ((((((((w2.setCell ⟨w.heap.size, 0, none⟩ (.int .i64 0)).setCell ⟨w.heap.size, 1, none⟩ (.int .i64 0)).setCell ⟨w.heap.size, 2, none⟩ (.int .i64 0)).setCell ⟨w.heap.size, 3, none⟩ (.int .i64 0)).setCell ⟨w.heap.size, 4, none⟩ (.int .i64 0)).setCell ⟨w.heap.size, 5, none⟩ (.int .i64 0)).setCell ⟨w.heap.size, 6, none⟩ (.int .i64 0)).setCell ⟨w.heap.size, 7, none⟩ (.int .i64 0)) := ((((((((hBa.setCell (p := ⟨w.heap.size, 0, none⟩) hle0 (.int .i64 0)).setCell (p := ⟨w.heap.size, 1, none⟩) hle0 (.int .i64 0)).setCell (p := ⟨w.heap.size, 2, none⟩) hle0 (.int .i64 0)).setCell (p := ⟨w.heap.size, 3, none⟩) hle0 (.int .i64 0)).setCell (p := ⟨w.heap.size, 4, none⟩) hle0 (.int .i64 0)).setCell (p := ⟨w.heap.size, 5, none⟩) hle0 (.int .i64 0)).setCell (p := ⟨w.heap.size, 6, none⟩) hle0 (.int .i64 0)).setCell (p := ⟨w.heap.size, 7, none⟩) hle0 (.int .i64 0))
      have hlF := hF.lt
      generalize ((((((((w2.setCell ⟨w.heap.size, 0, none⟩ (.int .i64 0)).setCell ⟨w.heap.size, 1, none⟩ (.int .i64 0)).setCell ⟨w.heap.size, 2, none⟩ (.int .i64 0)).setCell ⟨w.heap.size, 3, none⟩ (.int .i64 0)).setCell ⟨w.heap.size, 4, none⟩ (.int .i64 0)).setCell ⟨w.heap.size, 5, none⟩ (.int .i64 0)).setCell ⟨w.heap.size, 6, none⟩ (.int .i64 0)).setCell ⟨w.heap.size, 7, none⟩ (.int .i64 0)) = wf at *
      have r0 : wf.cell? ⟨w.heap.size, 0, none⟩ = some (.int .i64 0) := hF.cell 0
      have r1 : wf.cell? ⟨w.heap.size, 1, none⟩ = some (.int .i64 0) := hF.cell 1
      have r2 : wf.cell? ⟨w.heap.size, 2, none⟩ = some (.int .i64 0) := hF.cell 2
      have r3 : wf.cell? ⟨w.heap.size, 3, none⟩ = some (.int .i64 0) := hF.cell 3
      have r4 : wf.cell? ⟨w.heap.size, 4, none⟩ = some (.int .i64 0) := hF.cell 4
      have r5 : wf.cell? ⟨w.heap.size, 5, none⟩ = some (.int .i64 0) := hF.cell 5
      have r6 : wf.cell? ⟨w.heap.size, 6, none⟩ = some (.int .i64 0) := hF.cell 6
      have r7 : wf.cell? ⟨w.heap.size, 7, none⟩ = some (.int .i64 0) := hF.cell 7
      refine bodyPost_ret (v := .tuple #[.agg #[.int .i64 0, .int .i64 0, .int .i64 0, .int .i64 0, .int .i64 0, .int .i64 0, .int .i64 0, .int .i64 0], .bool false]) (by simp [results, Try.results15, go_sem, r0, r1, r2, r3, r4, r5, r6, r7, hlF]) rfl ?_
      exact ⟨rfl, hWf⟩
set_option maxHeartbeats 4000000 in
set_option maxRecDepth 100000 in
theorem rfrom11_any (A : Option Addr) (n c : Nat) (d : List Ed) (q : Int) (w : World) (hd : d.length = n) (hn : n ≤ 1000000) (h : Sl w w.heap.size 8 A n c (flatEd d)) (m : List Ed) (hm : d.filter (fun e => e.fr == q) = m) :
    Calls Try.prog 22 #[.slice A n c, .int .i64 q] w fun e w' => ∃ v, e = .returned v ∧ w'.ownsRow w.heap.size 34 8 v m.length (flatEd m) ∧ Below w.heap.size w w' := by
  obtain ⟨i0, hi0, hz0, hz1, hz2⟩ := info_parts infoEd
  have HD := Lib.hid hd
  have HM := Lib.hid hm
  have HL := Lib.hid h
  clear hd h hm
  go_enter Try.func22, Try.ntmps22
  go_wp2_with fail
  go_loopw [5, 6] (fun ev iv wr => ∃ (es : List Ed) (k i : Nat), iv = .int .i64 i ∧ i ≤ n ∧ k ≤ i ∧ Hid (es.length = k) ∧ Hid ((d.take i).filter (fun e => e.fr == q) = es) ∧ wr.ownsRow w.heap.size 34 8 ev k (flatEd es) ∧ Below w.heap.size w wr ∧ Hid (Sl wr w.heap.size 8 A n c (flatEd d))) (fun ev iv _ => n - (intOf iv).toNat)
  case atStart => exact ⟨[], 0, 0, rfl, by omega, by omega, rfl, by simp [Hid], World.ownsRow_nil _ _ _ _, Below.refl _ _, HL.out⟩
  case round =>
    clear HL
    obtain ⟨es, k, i, rfl, hi, hk, HE, HF, hown, hB, HL⟩ := hrel
    have hs := hB.size
    obtain ⟨Ae, ce, rfl⟩ := slice_of_own hown
    by_cases hin : i < n
    · obtain ⟨ad, rfl, hab, c0, c1, c2, c3, c4, c5, c6, c7⟩ := HL.out.lst.atEd HD.out hin
      have hin' : i < d.length := by rw [HD.out]; exact hin
      have hst := take_snocEd hin'
      obtain ⟨x, hx⟩ : ∃ x, gEd d i = x := ⟨_, rfl⟩
      rw [hx] at c0 c1 c2 c3 c4 c5 c6 c7 hst
      have HST := Lib.hid hst
      have hqb : ∀ q, (Value.slice Ae k ce).ownBlock = some q → q < wr.heap.size := fun q hq => (hown.lt q hq).2
      have HQB := Lib.hid hqb
      have hw2 : IntKind.i64.wrap ((i : Int) + 1) = (i : Int) + 1 := IntWalk.i64_in _ (by omega)
      clear hx hst hqb
      by_cases hfr : x.fr = q
      · have hF2 : (d.take (i + 1)).filter (fun e => e.fr == q) = es ++ [x] := by
          rw [HST.out, List.filter_append, HF.out]; simp [hfr]
        have HF2 := Lib.hid hF2
        have g1 : (x.fr == q) = true := by simp [hfr]
        clear hF2 hfr
        go_wp2_with (first | (at_builtin; refine wpList_append_own _ rfl _ _ 29 rfl w.heap.size 34 i0 _ 8 64 Try.underlying29 hi0 hz0 hz1 hz2 rfl (by decide) _ _ _ rfl (hown.alloc _) ⟨wr.heap.size, 0, none⟩ 1 1 [.int .i64 x.id, .int .i64 x.fr, .int .i64 x.tn, .int .i64 x.op, .int .i64 x.en, .int .i64 x.ra, .int .i64 x.ow, .int .i64 x.ro] rfl rfl (by exact lit_cells wr #[.int .i64 x.id, .int .i64 x.fr, .int .i64 x.tn, .int .i64 x.op, .int .i64 x.en, .int .i64 x.ra, .int .i64 x.ow, .int .i64 x.ro] _ _ rfl) (by simp [Value.oneCell']) (by unfold maxLen; omega) (by omega) (by simp; omega) ?_; intro v' w3 hown' hgrow3 hnil3; clear hnil3))
        have hbN : Below w.heap.size w w3 := (hB.alloc hs _).grown hgrow3 (by simp; omega) (fun q hq => by have := (hown.lt q hq).1; omega)
        have hLN := Lib.hid (HL.out.below (((Below.refl _ _).alloc hs (.cells #[.int .i64 x.id, .int .i64 x.fr, .int .i64 x.tn, .int .i64 x.op, .int .i64 x.en, .int .i64 x.ra, .int .i64 x.ow, .int .i64 x.ro] 34)).grown hgrow3 (by simp; omega) (fun q hq => by have := (hown.lt q hq).1; omega)))
        clear hgrow3 c0 c1 c2 c3 c4 c5 c6 c7
        go_wp2_with fail
        go_roundw
        case rel => exact ⟨es ++ [x], k + 1, i + 1, by go_num, by omega, by omega, by simp [Hid, HE.out], HF2, (by rw [flatEd_append, flatEd_one_]; exact hown'), hbN, hLN⟩
        case measure => simp [intOf]; omega
      · have hF2 : (d.take (i + 1)).filter (fun e => e.fr == q) = es := by
          rw [HST.out, List.filter_append, HF.out]; simp [hfr]
        have HF2 := Lib.hid hF2
        have g1 : (x.fr == q) = false := by simp [hfr]
        clear hF2 hfr
        go_wp2_with fail
        go_roundw
        case rel => exact ⟨es, k, i + 1, by go_num, by omega, by omega, HE, HF2, hown, hB, HL⟩
        case measure => simp [intOf]; omega
    · obtain rfl : i = n := by omega
      have hme : m = es := by
        rw [← HM.out, ← HF.out, List.take_of_length_le (by rw [HD.out]; omega)]
      subst hme
      go_wp2_with fail
      go_ret
      exact ⟨_, rfl, by rw [HE.out]; exact hown, hB⟩
set_option maxHeartbeats 8000000 in
set_option maxRecDepth 100000 in
theorem redge_any (A1 : Option Addr) (n1 c1 : Nat) (A : Option Addr) (n c : Nat) (rs : List Rg) (clk ver : Int) (A2 : Option Addr) (n2 c2 : Nat) (bk : List Bk) (x : Co) (cl : Int) (w : World) (hd : rs.length = n) (hn : n ≤ 1000000) (hd2 : bk.length = n2) (hn2 : n2 ≤ 100000) (h : Sl w w.heap.size 5 A n c (flatRg rs)) (h2 : Sl w w.heap.size 4 A2 n2 c2 (flatBk bk)) (hr2 : Kb.rightB bk = true) (hcl : inB cl 0 2 = true) (o : Option Ed) (ho : edgeF rs bk x cl = o) (y : Ed) (hy : o.getD zeroEd = y) :
    Calls Try.prog 13 #[.agg #[.slice A1 n1 c1, .slice A n c, .int .i64 clk, .int .i64 ver], .slice A2 n2 c2, .agg #[.int .i64 x.id, .int .i64 x.fr, .int .i64 x.tn, .int .i64 x.st, .int .i64 x.en, .int .i64 x.rt], .int .i64 cl] w fun e w' => e = .returned (.tuple #[.agg #[.int .i64 y.id, .int .i64 y.fr, .int .i64 y.tn, .int .i64 y.op, .int .i64 y.en, .int .i64 y.ra, .int .i64 y.ow, .int .i64 y.ro], .bool o.isSome]) ∧ Below w.heap.size w w' := by
  have hB : Below w.heap.size w (((w.alloc (.cells #[.slice A1 n1 c1, .slice A n c, .int .i64 clk, .int .i64 ver] 25)).alloc (.cells #[.int .i64 x.id, .int .i64 x.fr, .int .i64 x.tn, .int .i64 x.st, .int .i64 x.en, .int .i64 x.rt] 28)).alloc (.cells #[.int .i64 0, .int .i64 0, .int .i64 0, .int .i64 0, .int .i64 0, .int .i64 0, .int .i64 0, .int .i64 0] 34)) := by (repeat (first | exact Below.refl _ _ | refine Below.alloc ?_ (by first | omega | (simp; done) | (simp; omega)) _ | refine Below.setCell ?_ (by first | omega | (simp; done) | (simp; omega)) _ | refine Below.drew ?_))
  have hP := ((Blok.new w 25 #[.slice A1 n1 c1, .slice A n c, .int .i64 clk, .int .i64 ver]).alloc (.cells #[.int .i64 x.id, .int .i64 x.fr, .int .i64 x.tn, .int .i64 x.st, .int .i64 x.en, .int .i64 x.rt] 28)).alloc (.cells #[.int .i64 0, .int .i64 0, .int .i64 0, .int .i64 0, .int .i64 0, .int .i64 0, .int .i64 0, .int .i64 0] 34)
  have hC := (Blok.new (w.alloc (.cells #[.slice A1 n1 c1, .slice A n c, .int .i64 clk, .int .i64 ver] 25)) 28 #[.int .i64 x.id, .int .i64 x.fr, .int .i64 x.tn, .int .i64 x.st, .int .i64 x.en, .int .i64 x.rt]).alloc (.cells #[.int .i64 0, .int .i64 0, .int .i64 0, .int .i64 0, .int .i64 0, .int .i64 0, .int .i64 0, .int .i64 0] 34)
  have hZ := Blok.new ((w.alloc (.cells #[.slice A1 n1 c1, .slice A n c, .int .i64 clk, .int .i64 ver] 25)).alloc (.cells #[.int .i64 x.id, .int .i64 x.fr, .int .i64 x.tn, .int .i64 x.st, .int .i64 x.en, .int .i64 x.rt] 28)) 34 #[.int .i64 0, .int .i64 0, .int .i64 0, .int .i64 0, .int .i64 0, .int .i64 0, .int .i64 0, .int .i64 0]
  simp only [World.size_alloc] at hC hZ
  replace h := h.up hB
  replace h2 := h2.up hB
  have hs := hB.size
  obtain ⟨ok, hok⟩ : ∃ b, Kc.okC x = b := ⟨_, rfl⟩
  obtain ⟨ov, hov⟩ : ∃ q, owltF rs x.fr x.tn x.st x.en = q := ⟨_, rfl⟩
  have HD := Lib.hid hd
  have HD2 := Lib.hid hd2
  have HR2 := Lib.hid hr2
  have HCL := Lib.hid hcl
  have HO := Lib.hid ho
  have HY := Lib.hid hy
  have HOK := Lib.hid hok
  have HOV := Lib.hid hov
  clear hd hd2 hr2 ho hy hok hov hcl
  go_enter Try.func13, Try.ntmps13
  go_upto_region 1 with fail
  generalize ((w.alloc (.cells #[.slice A1 n1 c1, .slice A n c, .int .i64 clk, .int .i64 ver] 25)).alloc (.cells #[.int .i64 x.id, .int .i64 x.fr, .int .i64 x.tn, .int .i64 x.st, .int .i64 x.en, .int .i64 x.rt] 28)).alloc (.cells #[.int .i64 0, .int .i64 0, .int .i64 0, .int .i64 0, .int .i64 0, .int .i64 0, .int .i64 0, .int .i64 0] 34) = w0 at *
  have p1 : w0.cell? ⟨w.heap.size, 1, none⟩ = some (.slice A n c) := hP.cell 1
  have lt_p := hP.lt
  have k0 : w0.cell? ⟨w.heap.size + 1, 0, none⟩ = some (.int .i64 x.id) := hC.cell 0
  have k1 : w0.cell? ⟨w.heap.size + 1, 1, none⟩ = some (.int .i64 x.fr) := hC.cell 1
  have k2 : w0.cell? ⟨w.heap.size + 1, 2, none⟩ = some (.int .i64 x.tn) := hC.cell 2
  have k3 : w0.cell? ⟨w.heap.size + 1, 3, none⟩ = some (.int .i64 x.st) := hC.cell 3
  have k4 : w0.cell? ⟨w.heap.size + 1, 4, none⟩ = some (.int .i64 x.en) := hC.cell 4
  have k5 : w0.cell? ⟨w.heap.size + 1, 5, none⟩ = some (.int .i64 x.rt) := hC.cell 5
  have lt_c := hC.lt
  go_wp2_with fail
  refine (Kr.rowlt_any A n c rs x.id x.fr x.tn x.st x.en x.rt w0 HD.out hn h (ov.getD 0) ov.isSome (by rw [← HOV.out]; rfl) (by rw [← HOV.out]; unfold owltF; simp)).mono ?_
  rintro e w1 ⟨rfl, hb⟩
  clear p1 lt_p k0 k1 k2 k3 k4 k5 lt_c
  replace h2 := h2.up hb
  replace hC := hC.below hb hC.lt
  replace hZ := hZ.below hb hZ.lt
  replace hB := hB.trans (hb.mono hs)
  replace hs := hB.size
  clear hb h hP
  have k0 : w1.cell? ⟨w.heap.size + 1, 0, none⟩ = some (.int .i64 x.id) := hC.cell 0
  have k1 : w1.cell? ⟨w.heap.size + 1, 1, none⟩ = some (.int .i64 x.fr) := hC.cell 1
  have k2 : w1.cell? ⟨w.heap.size + 1, 2, none⟩ = some (.int .i64 x.tn) := hC.cell 2
  have k3 : w1.cell? ⟨w.heap.size + 1, 3, none⟩ = some (.int .i64 x.st) := hC.cell 3
  have k4 : w1.cell? ⟨w.heap.size + 1, 4, none⟩ = some (.int .i64 x.en) := hC.cell 4
  have k5 : w1.cell? ⟨w.heap.size + 1, 5, none⟩ = some (.int .i64 x.rt) := hC.cell 5
  have lt_c := hC.lt
  go_wp2_with fail
  refine (rcontact_is ok (show contactB x.id x.fr x.tn x.st x.en x.rt = ok from HOK.out) w1).mono ?_
  rintro e w2 ⟨rfl, hb⟩
  clear k0 k1 k2 k3 k4 k5 lt_c
  replace h2 := h2.up hb
  replace hC := hC.below hb hC.lt
  replace hZ := hZ.below hb hZ.lt
  replace hB := hB.trans (hb.mono hs)
  replace hs := hB.size
  clear hb
  cases ov with
  | none =>
    have hov : o = none := by
      rw [← HO.out]; unfold edgeF
      split
      · rw [HOV.out]; rfl
      · rfl
    have hyv : y = zeroEd := by rw [← HY.out, hov]; rfl
    subst hyv
    have HOV2 := Lib.hid hov
    clear hov
    dsimp only [Option.isSome, Option.getD]
    have r0 : w2.cell? ⟨w.heap.size + 1 + 1, 0, none⟩ = some (.int .i64 0) := hZ.cell 0
    have f_0 := hZ.free 0
    have r1 : w2.cell? ⟨w.heap.size + 1 + 1, 1, none⟩ = some (.int .i64 0) := hZ.cell 1
    have f_1 := hZ.free 1
    have r2 : w2.cell? ⟨w.heap.size + 1 + 1, 2, none⟩ = some (.int .i64 0) := hZ.cell 2
    have f_2 := hZ.free 2
    have r3 : w2.cell? ⟨w.heap.size + 1 + 1, 3, none⟩ = some (.int .i64 0) := hZ.cell 3
    have f_3 := hZ.free 3
    have r4 : w2.cell? ⟨w.heap.size + 1 + 1, 4, none⟩ = some (.int .i64 0) := hZ.cell 4
    have f_4 := hZ.free 4
    have r5 : w2.cell? ⟨w.heap.size + 1 + 1, 5, none⟩ = some (.int .i64 0) := hZ.cell 5
    have f_5 := hZ.free 5
    have r6 : w2.cell? ⟨w.heap.size + 1 + 1, 6, none⟩ = some (.int .i64 0) := hZ.cell 6
    have f_6 := hZ.free 6
    have r7 : w2.cell? ⟨w.heap.size + 1 + 1, 7, none⟩ = some (.int .i64 0) := hZ.cell 7
    have f_7 := hZ.free 7
    have lt_z := hZ.lt
    have HZ := Lib.hid hZ
    clear hZ hC h2
    go_wp2_with fail
    have hX := HZ.out
    clear r0 r1 r2 r3 r4 r5 r6 r7
    have hF : Blok ((((((((w2.setCell ⟨(w.heap.size + 1 + 1), 0, none⟩ (.int .i64 0)).setCell ⟨(w.heap.size + 1 + 1), 1, none⟩ (.int .i64 0)).setCell ⟨(w.heap.size + 1 + 1), 2, none⟩ (.int .i64 0)).setCell ⟨(w.heap.size + 1 + 1), 3, none⟩ (.int .i64 0)).setCell ⟨(w.heap.size + 1 + 1), 4, none⟩ (.int .i64 0)).setCell ⟨(w.heap.size + 1 + 1), 5, none⟩ (.int .i64 0)).setCell ⟨(w.heap.size + 1 + 1), 6, none⟩ (.int .i64 0)).setCell ⟨(w.heap.size + 1 + 1), 7, none⟩ (.int .i64 0)) (w.heap.size + 1 + 1) 34 #[.int .i64 0, .int .i64 0, .int .i64 0, .int .i64 0, .int .i64 0, .int .i64 0, .int .i64 0, .int .i64 0] := by have h := ((((((((hX.set_ 0 (.int .i64 0)).set_ 1 (.int .i64 0)).set_ 2 (.int .i64 0)).set_ 3 (.int .i64 0)).set_ 4 (.int .i64 0)).set_ 5 (.int .i64 0)).set_ 6 (.int .i64 0)).set_ 7 (.int .i64 0)); simpa using h
    have hle0 : w.heap.size ≤ (w.heap.size + 1 + 1) := by first | exact Nat.le_refl _ | omega
    have hWf : Below w.heap.size w ((((((((w2.setCell ⟨(w.heap.size + 1 + 1), 0, none⟩ (.int .i64 0)).setCell ⟨(w.heap.size + 1 + 1), 1, none⟩ (.int .i64 0)).setCell ⟨(w.heap.size + 1 + 1), 2, none⟩ (.int .i64 0)).setCell ⟨(w.heap.size + 1 + 1), 3, none⟩ (.int .i64 0)).setCell ⟨(w.heap.size + 1 + 1), 4, none⟩ (.int .i64 0)).setCell ⟨(w.heap.size + 1 + 1), 5, none⟩ (.int .i64 0)).setCell ⟨(w.heap.size + 1 + 1), 6, none⟩ (.int .i64 0)).setCell ⟨(w.heap.size + 1 + 1), 7, none⟩ (.int .i64 0)) := ((((((((hB.setCell (p := ⟨(w.heap.size + 1 + 1), 0, none⟩) hle0 (.int .i64 0)).setCell (p := ⟨(w.heap.size + 1 + 1), 1, none⟩) hle0 (.int .i64 0)).setCell (p := ⟨(w.heap.size + 1 + 1), 2, none⟩) hle0 (.int .i64 0)).setCell (p := ⟨(w.heap.size + 1 + 1), 3, none⟩) hle0 (.int .i64 0)).setCell (p := ⟨(w.heap.size + 1 + 1), 4, none⟩) hle0 (.int .i64 0)).setCell (p := ⟨(w.heap.size + 1 + 1), 5, none⟩) hle0 (.int .i64 0)).setCell (p := ⟨(w.heap.size + 1 + 1), 6, none⟩) hle0 (.int .i64 0)).setCell (p := ⟨(w.heap.size + 1 + 1), 7, none⟩) hle0 (.int .i64 0))
    have hlF := hF.lt
    generalize ((((((((w2.setCell ⟨(w.heap.size + 1 + 1), 0, none⟩ (.int .i64 0)).setCell ⟨(w.heap.size + 1 + 1), 1, none⟩ (.int .i64 0)).setCell ⟨(w.heap.size + 1 + 1), 2, none⟩ (.int .i64 0)).setCell ⟨(w.heap.size + 1 + 1), 3, none⟩ (.int .i64 0)).setCell ⟨(w.heap.size + 1 + 1), 4, none⟩ (.int .i64 0)).setCell ⟨(w.heap.size + 1 + 1), 5, none⟩ (.int .i64 0)).setCell ⟨(w.heap.size + 1 + 1), 6, none⟩ (.int .i64 0)).setCell ⟨(w.heap.size + 1 + 1), 7, none⟩ (.int .i64 0)) = wf at *
    have r0 : wf.cell? ⟨(w.heap.size + 1 + 1), 0, none⟩ = some (.int .i64 0) := hF.cell 0
    have r1 : wf.cell? ⟨(w.heap.size + 1 + 1), 1, none⟩ = some (.int .i64 0) := hF.cell 1
    have r2 : wf.cell? ⟨(w.heap.size + 1 + 1), 2, none⟩ = some (.int .i64 0) := hF.cell 2
    have r3 : wf.cell? ⟨(w.heap.size + 1 + 1), 3, none⟩ = some (.int .i64 0) := hF.cell 3
    have r4 : wf.cell? ⟨(w.heap.size + 1 + 1), 4, none⟩ = some (.int .i64 0) := hF.cell 4
    have r5 : wf.cell? ⟨(w.heap.size + 1 + 1), 5, none⟩ = some (.int .i64 0) := hF.cell 5
    have r6 : wf.cell? ⟨(w.heap.size + 1 + 1), 6, none⟩ = some (.int .i64 0) := hF.cell 6
    have r7 : wf.cell? ⟨(w.heap.size + 1 + 1), 7, none⟩ = some (.int .i64 0) := hF.cell 7
    refine bodyPost_ret (v := .tuple #[.agg #[.int .i64 0, .int .i64 0, .int .i64 0, .int .i64 0, .int .i64 0, .int .i64 0, .int .i64 0, .int .i64 0], .bool false]) (by simp [results, Try.results13, go_sem, r0, r1, r2, r3, r4, r5, r6, r7, hlF]) rfl ?_
    rw [HOV2.out]
    exact ⟨rfl, hWf⟩
  | some v =>
    dsimp only [Option.isSome, Option.getD]
    cases ok
    · have hov : o = none := by rw [← HO.out]; unfold edgeF; rw [if_neg (by rw [HOK.out]; decide)]
      have hyv : y = zeroEd := by rw [← HY.out, hov]; rfl
      subst hyv
      have HOV2 := Lib.hid hov
      clear hov
      have r0 : w2.cell? ⟨w.heap.size + 1 + 1, 0, none⟩ = some (.int .i64 0) := hZ.cell 0
      have f_0 := hZ.free 0
      have r1 : w2.cell? ⟨w.heap.size + 1 + 1, 1, none⟩ = some (.int .i64 0) := hZ.cell 1
      have f_1 := hZ.free 1
      have r2 : w2.cell? ⟨w.heap.size + 1 + 1, 2, none⟩ = some (.int .i64 0) := hZ.cell 2
      have f_2 := hZ.free 2
      have r3 : w2.cell? ⟨w.heap.size + 1 + 1, 3, none⟩ = some (.int .i64 0) := hZ.cell 3
      have f_3 := hZ.free 3
      have r4 : w2.cell? ⟨w.heap.size + 1 + 1, 4, none⟩ = some (.int .i64 0) := hZ.cell 4
      have f_4 := hZ.free 4
      have r5 : w2.cell? ⟨w.heap.size + 1 + 1, 5, none⟩ = some (.int .i64 0) := hZ.cell 5
      have f_5 := hZ.free 5
      have r6 : w2.cell? ⟨w.heap.size + 1 + 1, 6, none⟩ = some (.int .i64 0) := hZ.cell 6
      have f_6 := hZ.free 6
      have r7 : w2.cell? ⟨w.heap.size + 1 + 1, 7, none⟩ = some (.int .i64 0) := hZ.cell 7
      have f_7 := hZ.free 7
      have lt_z := hZ.lt
      have HZ := Lib.hid hZ
      clear hZ hC h2
      go_wp2_with fail
      have hX := HZ.out
      clear r0 r1 r2 r3 r4 r5 r6 r7
      have hF : Blok ((((((((w2.setCell ⟨(w.heap.size + 1 + 1), 0, none⟩ (.int .i64 0)).setCell ⟨(w.heap.size + 1 + 1), 1, none⟩ (.int .i64 0)).setCell ⟨(w.heap.size + 1 + 1), 2, none⟩ (.int .i64 0)).setCell ⟨(w.heap.size + 1 + 1), 3, none⟩ (.int .i64 0)).setCell ⟨(w.heap.size + 1 + 1), 4, none⟩ (.int .i64 0)).setCell ⟨(w.heap.size + 1 + 1), 5, none⟩ (.int .i64 0)).setCell ⟨(w.heap.size + 1 + 1), 6, none⟩ (.int .i64 0)).setCell ⟨(w.heap.size + 1 + 1), 7, none⟩ (.int .i64 0)) (w.heap.size + 1 + 1) 34 #[.int .i64 0, .int .i64 0, .int .i64 0, .int .i64 0, .int .i64 0, .int .i64 0, .int .i64 0, .int .i64 0] := by have h := ((((((((hX.set_ 0 (.int .i64 0)).set_ 1 (.int .i64 0)).set_ 2 (.int .i64 0)).set_ 3 (.int .i64 0)).set_ 4 (.int .i64 0)).set_ 5 (.int .i64 0)).set_ 6 (.int .i64 0)).set_ 7 (.int .i64 0)); simpa using h
      have hle0 : w.heap.size ≤ (w.heap.size + 1 + 1) := by first | exact Nat.le_refl _ | omega
      have hWf : Below w.heap.size w ((((((((w2.setCell ⟨(w.heap.size + 1 + 1), 0, none⟩ (.int .i64 0)).setCell ⟨(w.heap.size + 1 + 1), 1, none⟩ (.int .i64 0)).setCell ⟨(w.heap.size + 1 + 1), 2, none⟩ (.int .i64 0)).setCell ⟨(w.heap.size + 1 + 1), 3, none⟩ (.int .i64 0)).setCell ⟨(w.heap.size + 1 + 1), 4, none⟩ (.int .i64 0)).setCell ⟨(w.heap.size + 1 + 1), 5, none⟩ (.int .i64 0)).setCell ⟨(w.heap.size + 1 + 1), 6, none⟩ (.int .i64 0)).setCell ⟨(w.heap.size + 1 + 1), 7, none⟩ (.int .i64 0)) := ((((((((hB.setCell (p := ⟨(w.heap.size + 1 + 1), 0, none⟩) hle0 (.int .i64 0)).setCell (p := ⟨(w.heap.size + 1 + 1), 1, none⟩) hle0 (.int .i64 0)).setCell (p := ⟨(w.heap.size + 1 + 1), 2, none⟩) hle0 (.int .i64 0)).setCell (p := ⟨(w.heap.size + 1 + 1), 3, none⟩) hle0 (.int .i64 0)).setCell (p := ⟨(w.heap.size + 1 + 1), 4, none⟩) hle0 (.int .i64 0)).setCell (p := ⟨(w.heap.size + 1 + 1), 5, none⟩) hle0 (.int .i64 0)).setCell (p := ⟨(w.heap.size + 1 + 1), 6, none⟩) hle0 (.int .i64 0)).setCell (p := ⟨(w.heap.size + 1 + 1), 7, none⟩) hle0 (.int .i64 0))
      have hlF := hF.lt
      generalize ((((((((w2.setCell ⟨(w.heap.size + 1 + 1), 0, none⟩ (.int .i64 0)).setCell ⟨(w.heap.size + 1 + 1), 1, none⟩ (.int .i64 0)).setCell ⟨(w.heap.size + 1 + 1), 2, none⟩ (.int .i64 0)).setCell ⟨(w.heap.size + 1 + 1), 3, none⟩ (.int .i64 0)).setCell ⟨(w.heap.size + 1 + 1), 4, none⟩ (.int .i64 0)).setCell ⟨(w.heap.size + 1 + 1), 5, none⟩ (.int .i64 0)).setCell ⟨(w.heap.size + 1 + 1), 6, none⟩ (.int .i64 0)).setCell ⟨(w.heap.size + 1 + 1), 7, none⟩ (.int .i64 0)) = wf at *
      have r0 : wf.cell? ⟨(w.heap.size + 1 + 1), 0, none⟩ = some (.int .i64 0) := hF.cell 0
      have r1 : wf.cell? ⟨(w.heap.size + 1 + 1), 1, none⟩ = some (.int .i64 0) := hF.cell 1
      have r2 : wf.cell? ⟨(w.heap.size + 1 + 1), 2, none⟩ = some (.int .i64 0) := hF.cell 2
      have r3 : wf.cell? ⟨(w.heap.size + 1 + 1), 3, none⟩ = some (.int .i64 0) := hF.cell 3
      have r4 : wf.cell? ⟨(w.heap.size + 1 + 1), 4, none⟩ = some (.int .i64 0) := hF.cell 4
      have r5 : wf.cell? ⟨(w.heap.size + 1 + 1), 5, none⟩ = some (.int .i64 0) := hF.cell 5
      have r6 : wf.cell? ⟨(w.heap.size + 1 + 1), 6, none⟩ = some (.int .i64 0) := hF.cell 6
      have r7 : wf.cell? ⟨(w.heap.size + 1 + 1), 7, none⟩ = some (.int .i64 0) := hF.cell 7
      refine bodyPost_ret (v := .tuple #[.agg #[.int .i64 0, .int .i64 0, .int .i64 0, .int .i64 0, .int .i64 0, .int .i64 0, .int .i64 0, .int .i64 0], .bool false]) (by simp [results, Try.results13, go_sem, r0, r1, r2, r3, r4, r5, r6, r7, hlF]) rfl ?_
      rw [HOV2.out]
      exact ⟨rfl, hWf⟩
    · have hcb : contactB x.id x.fr x.tn x.st x.en x.rt = true := HOK.out
      obtain ⟨⟨i1, i2⟩, _, _, _, j1, j2, j3, k1', k2'⟩ := contactB_spec.1 hcb
      have hbk := Kb.backF_ok (Kb.right_ok HR2.out x.id) cl
      obtain ⟨bl, hbl⟩ : ∃ q, Kb.backF (Kb.rowB bk x.id) cl = q := ⟨_, rfl⟩
      rw [hbl] at hbk
      have hcd := cdiv_bounds hbk.1 k1'
      obtain ⟨dq, hdq⟩ : ∃ q, cdiv bl x.rt = q := ⟨_, rfl⟩
      rw [hdq] at hcd
      obtain ⟨rm, hrm⟩ : ∃ q, Kb.roomF (ctOf x) (Kb.rowB bk x.id) cl = q := ⟨_, rfl⟩
      obtain ⟨om, hom⟩ : ∃ q, min (x.st + dq) 1099511627776 = q := ⟨_, rfl⟩
      have hov : o = some ⟨x.id, x.fr, x.tn, om, x.en, x.rt, v, rm⟩ := by
        rw [← HO.out]; unfold edgeF; rw [if_pos HOK.out, HOV.out, hbl, hdq, hrm, hom]; rfl
      have hyv : y = ⟨x.id, x.fr, x.tn, om, x.en, x.rt, v, rm⟩ := by rw [← HY.out, hov]; rfl
      subst hyv
      have HOV2 := Lib.hid hov
      have HBL := Lib.hid hbl
      have HDQ := Lib.hid hdq
      have HRM := Lib.hid hrm
      have hq1 : 0 ≤ dq := hcd.1
      have hq2 : dq ≤ 4611686018427387904 := by
        have h1 := hcd.2.1
        have h2 := hbk.2
        omega
      have HCE := Lib.hid (fun (w' : World) => rceil_yes (a := bl) (b := x.rt) hbk.1 (by omega) k1' w')
      have HQ2 : Hid (∀ dd os, Sl (grow (redrawn w2 dd) os) (grow (redrawn w2 dd) os).heap.size 4 A2 n2 c2 (flatBk bk)) := fun dd os => h2.up (below_regrown w2 dd os)
      have k0 : w2.cell? ⟨w.heap.size + 1, 0, none⟩ = some (.int .i64 x.id) := hC.cell 0
      have k1 : w2.cell? ⟨w.heap.size + 1, 1, none⟩ = some (.int .i64 x.fr) := hC.cell 1
      have k2 : w2.cell? ⟨w.heap.size + 1, 2, none⟩ = some (.int .i64 x.tn) := hC.cell 2
      have k3 : w2.cell? ⟨w.heap.size + 1, 3, none⟩ = some (.int .i64 x.st) := hC.cell 3
      have k4 : w2.cell? ⟨w.heap.size + 1, 4, none⟩ = some (.int .i64 x.en) := hC.cell 4
      have k5 : w2.cell? ⟨w.heap.size + 1, 5, none⟩ = some (.int .i64 x.rt) := hC.cell 5
      have lt_c := hC.lt
      clear hov hbl hdq hrm hcb hbk hcd HO HY HOV
      go_wp2_with fail
      have q_k0 := fun d os => cell_regrown k0 d os
      have q_k1 := fun d os => cell_regrown k1 d os
      have q_k2 := fun d os => cell_regrown k2 d os
      have q_k3 := fun d os => cell_regrown k3 d os
      have q_k4 := fun d os => cell_regrown k4 d os
      have q_k5 := fun d os => cell_regrown k5 d os
      try simp only [List.append]
      first | refine wp_region_text_below ?_ | refine wp_region_quiet_below (by kernel_rfl) (by kernel_rfl) ?_
      repeat (go_big_quiet_step ((first | (go_at_call 40; with_reducible exact Calls.regrown_of (Kb.rbacklog_any A2 n2 c2 bk x.id cl _ HD2.out (by omega) (HQ2.out _ _) (Kb.right_sort HR2.out) _ rfl (Kb.right_ok HR2.out x.id) bl HBL.out)) | (go_at_call 39; with_reducible exact HDQ.out ▸ Calls.regrown_same (HCE.out _)))))
      refine wpQuiet_nil ?_
      intro _ hqw
      obtain ⟨pq, hqw⟩ := hqw
      subst hqw
      clear q_k0 q_k1 q_k2 q_k3 q_k4 q_k5
      have hb := below_regrown w2 pq.d pq.os
      replace h2 := h2.up hb
      replace hC := hC.below hb hC.lt
      replace hZ := hZ.below hb hZ.lt
      replace hB := hB.trans (hb.mono hs)
      replace hs := hB.size
      clear hb k0 k1 k2 k3 k4 k5 lt_c HBL HDQ HQ2 HCE
      generalize grow (redrawn w2 pq.d) pq.os = w3 at *
      have k0 : w3.cell? ⟨w.heap.size + 1, 0, none⟩ = some (.int .i64 x.id) := hC.cell 0
      have k1 : w3.cell? ⟨w.heap.size + 1, 1, none⟩ = some (.int .i64 x.fr) := hC.cell 1
      have k2 : w3.cell? ⟨w.heap.size + 1, 2, none⟩ = some (.int .i64 x.tn) := hC.cell 2
      have k3 : w3.cell? ⟨w.heap.size + 1, 3, none⟩ = some (.int .i64 x.st) := hC.cell 3
      have k4 : w3.cell? ⟨w.heap.size + 1, 4, none⟩ = some (.int .i64 x.en) := hC.cell 4
      have k5 : w3.cell? ⟨w.heap.size + 1, 5, none⟩ = some (.int .i64 x.rt) := hC.cell 5
      have lt_c := hC.lt
      obtain ⟨mq, hmq⟩ : ∃ q, min dq 1099511627776 = q := ⟨_, rfl⟩
      have hm1 : (dq ≤ 1099511627776 ∧ dq = mq) ∨ (1099511627776 < dq ∧ mq = 1099511627776) := by omega
      have hm2 : (x.st + mq ≤ 1099511627776 ∧ om = x.st + mq) ∨ (1099511627776 < x.st + mq ∧ om = 1099511627776) := by omega
      have g0 : IntKind.i64.wrap (x.st + mq) = x.st + mq := IntWalk.i64_in _ (by omega)
      clear hmq hom
      have HQ3 : Hid (∀ dd os, Sl (grow (redrawn w3 dd) os) (grow (redrawn w3 dd) os).heap.size 4 A2 n2 c2 (flatBk bk)) := fun dd os => h2.up (below_regrown w3 dd os)
      have HRC := Lib.hid (show ∀ w' : World, Sl w' w'.heap.size 4 A2 n2 c2 (flatBk bk) → Calls Try.prog 41 #[.slice A2 n2 c2, .agg #[.int .i64 x.id, .int .i64 x.fr, .int .i64 x.tn, .int .i64 x.st, .int .i64 x.en, .int .i64 x.rt], .int .i64 cl] w' fun e w'' => e = .returned (.int .i64 rm) ∧ Below w'.heap.size w' w'' from fun w' hl' => Kb.rroom_any A2 n2 c2 bk (ctOf x) cl w' HD2.out (by omega) hl' (Kb.right_sort HR2.out) _ rfl (Kb.right_ok HR2.out x.id) rm HRM.out)
      rcases hm1 with ⟨hm1, rfl⟩ | ⟨hm1, rfl⟩ <;> rcases hm2 with ⟨hm2, rfl⟩ | ⟨hm2, rfl⟩
      all_goals
        go_upto_region 7 with fail
        have q_k0 := fun d os => cell_regrown k0 d os
        have q_k1 := fun d os => cell_regrown k1 d os
        have q_k2 := fun d os => cell_regrown k2 d os
        have q_k3 := fun d os => cell_regrown k3 d os
        have q_k4 := fun d os => cell_regrown k4 d os
        have q_k5 := fun d os => cell_regrown k5 d os
        try simp only [List.append]
        refine wp_region_grown_tail 17 (by kernel_rfl) (by kernel_rfl) ?_
        simp only [Nat.reduceAdd, List.take_succ_cons, List.take_zero]
        repeat (go_big_quiet_step ((go_at_call 41; with_reducible exact Calls.regrown_of (HRC.out _ (HQ3.out _ _)))))
        refine wpQuiet_nil ?_
        intro _ hqw
        obtain ⟨pq, hqw⟩ := hqw
        subst hqw
        clear q_k0 q_k1 q_k2 q_k3 q_k4 q_k5
        have hb := below_regrown w3 pq.d pq.os
        have hZ4 := hZ.below hb hZ.lt
        have hB4 := hB.trans (hb.mono hs)
        have hs4 := hB4.size
        clear hb k0 k1 k2 k3 k4 k5 lt_c hZ hB hs hC h2
        generalize grow (redrawn w3 pq.d) pq.os = w4 at *
        have r0 : w4.cell? ⟨w.heap.size + 1 + 1, 0, none⟩ = some (.int .i64 0) := hZ4.cell 0
        have f_0 := hZ4.free 0
        have r1 : w4.cell? ⟨w.heap.size + 1 + 1, 1, none⟩ = some (.int .i64 0) := hZ4.cell 1
        have f_1 := hZ4.free 1
        have r2 : w4.cell? ⟨w.heap.size + 1 + 1, 2, none⟩ = some (.int .i64 0) := hZ4.cell 2
        have f_2 := hZ4.free 2
        have r3 : w4.cell? ⟨w.heap.size + 1 + 1, 3, none⟩ = some (.int .i64 0) := hZ4.cell 3
        have f_3 := hZ4.free 3
        have r4 : w4.cell? ⟨w.heap.size + 1 + 1, 4, none⟩ = some (.int .i64 0) := hZ4.cell 4
        have f_4 := hZ4.free 4
        have r5 : w4.cell? ⟨w.heap.size + 1 + 1, 5, none⟩ = some (.int .i64 0) := hZ4.cell 5
        have f_5 := hZ4.free 5
        have r6 : w4.cell? ⟨w.heap.size + 1 + 1, 6, none⟩ = some (.int .i64 0) := hZ4.cell 6
        have f_6 := hZ4.free 6
        have r7 : w4.cell? ⟨w.heap.size + 1 + 1, 7, none⟩ = some (.int .i64 0) := hZ4.cell 7
        have f_7 := hZ4.free 7
        have lt_z := hZ4.lt
        have HZ := Lib.hid hZ4
        clear hZ4
        go_wp2
        have hX := HZ.out
        clear r0 r1 r2 r3 r4 r5 r6 r7
      next =>
        have hF : Blok ((((((((w4.setCell ⟨(w.heap.size + 1 + 1), 0, none⟩ (.int .i64 x.id)).setCell ⟨(w.heap.size + 1 + 1), 1, none⟩ (.int .i64 x.fr)).setCell ⟨(w.heap.size + 1 + 1), 2, none⟩ (.int .i64 x.tn)).setCell ⟨(w.heap.size + 1 + 1), 3, none⟩ (.int .i64 (x.st + dq))).setCell ⟨(w.heap.size + 1 + 1), 4, none⟩ (.int .i64 x.en)).setCell ⟨(w.heap.size + 1 + 1), 5, none⟩ (.int .i64 x.rt)).setCell ⟨(w.heap.size + 1 + 1), 6, none⟩ (.int .i64 v)).setCell ⟨(w.heap.size + 1 + 1), 7, none⟩ (.int .i64 rm)) (w.heap.size + 1 + 1) 34 #[.int .i64 x.id, .int .i64 x.fr, .int .i64 x.tn, .int .i64 (x.st + dq), .int .i64 x.en, .int .i64 x.rt, .int .i64 v, .int .i64 rm] := by have h := ((((((((hX.set_ 0 (.int .i64 x.id)).set_ 1 (.int .i64 x.fr)).set_ 2 (.int .i64 x.tn)).set_ 3 (.int .i64 (x.st + dq))).set_ 4 (.int .i64 x.en)).set_ 5 (.int .i64 x.rt)).set_ 6 (.int .i64 v)).set_ 7 (.int .i64 rm)); simpa using h
        have hle0 : w.heap.size ≤ (w.heap.size + 1 + 1) := by first | exact Nat.le_refl _ | omega
        have hWf : Below w.heap.size w ((((((((w4.setCell ⟨(w.heap.size + 1 + 1), 0, none⟩ (.int .i64 x.id)).setCell ⟨(w.heap.size + 1 + 1), 1, none⟩ (.int .i64 x.fr)).setCell ⟨(w.heap.size + 1 + 1), 2, none⟩ (.int .i64 x.tn)).setCell ⟨(w.heap.size + 1 + 1), 3, none⟩ (.int .i64 (x.st + dq))).setCell ⟨(w.heap.size + 1 + 1), 4, none⟩ (.int .i64 x.en)).setCell ⟨(w.heap.size + 1 + 1), 5, none⟩ (.int .i64 x.rt)).setCell ⟨(w.heap.size + 1 + 1), 6, none⟩ (.int .i64 v)).setCell ⟨(w.heap.size + 1 + 1), 7, none⟩ (.int .i64 rm)) := ((((((((hB4.setCell (p := ⟨(w.heap.size + 1 + 1), 0, none⟩) hle0 (.int .i64 x.id)).setCell (p := ⟨(w.heap.size + 1 + 1), 1, none⟩) hle0 (.int .i64 x.fr)).setCell (p := ⟨(w.heap.size + 1 + 1), 2, none⟩) hle0 (.int .i64 x.tn)).setCell (p := ⟨(w.heap.size + 1 + 1), 3, none⟩) hle0 (.int .i64 (x.st + dq))).setCell (p := ⟨(w.heap.size + 1 + 1), 4, none⟩) hle0 (.int .i64 x.en)).setCell (p := ⟨(w.heap.size + 1 + 1), 5, none⟩) hle0 (.int .i64 x.rt)).setCell (p := ⟨(w.heap.size + 1 + 1), 6, none⟩) hle0 (.int .i64 v)).setCell (p := ⟨(w.heap.size + 1 + 1), 7, none⟩) hle0 (.int .i64 rm))
        have hlF := hF.lt
        generalize ((((((((w4.setCell ⟨(w.heap.size + 1 + 1), 0, none⟩ (.int .i64 x.id)).setCell ⟨(w.heap.size + 1 + 1), 1, none⟩ (.int .i64 x.fr)).setCell ⟨(w.heap.size + 1 + 1), 2, none⟩ (.int .i64 x.tn)).setCell ⟨(w.heap.size + 1 + 1), 3, none⟩ (.int .i64 (x.st + dq))).setCell ⟨(w.heap.size + 1 + 1), 4, none⟩ (.int .i64 x.en)).setCell ⟨(w.heap.size + 1 + 1), 5, none⟩ (.int .i64 x.rt)).setCell ⟨(w.heap.size + 1 + 1), 6, none⟩ (.int .i64 v)).setCell ⟨(w.heap.size + 1 + 1), 7, none⟩ (.int .i64 rm)) = wf at *
        have r0 : wf.cell? ⟨(w.heap.size + 1 + 1), 0, none⟩ = some (.int .i64 x.id) := hF.cell 0
        have r1 : wf.cell? ⟨(w.heap.size + 1 + 1), 1, none⟩ = some (.int .i64 x.fr) := hF.cell 1
        have r2 : wf.cell? ⟨(w.heap.size + 1 + 1), 2, none⟩ = some (.int .i64 x.tn) := hF.cell 2
        have r3 : wf.cell? ⟨(w.heap.size + 1 + 1), 3, none⟩ = some (.int .i64 (x.st + dq)) := hF.cell 3
        have r4 : wf.cell? ⟨(w.heap.size + 1 + 1), 4, none⟩ = some (.int .i64 x.en) := hF.cell 4
        have r5 : wf.cell? ⟨(w.heap.size + 1 + 1), 5, none⟩ = some (.int .i64 x.rt) := hF.cell 5
        have r6 : wf.cell? ⟨(w.heap.size + 1 + 1), 6, none⟩ = some (.int .i64 v) := hF.cell 6
        have r7 : wf.cell? ⟨(w.heap.size + 1 + 1), 7, none⟩ = some (.int .i64 rm) := hF.cell 7
        refine bodyPost_ret (v := .tuple #[.agg #[.int .i64 x.id, .int .i64 x.fr, .int .i64 x.tn, .int .i64 (x.st + dq), .int .i64 x.en, .int .i64 x.rt, .int .i64 v, .int .i64 rm], .bool true]) (by simp [results, Try.results13, go_sem, r0, r1, r2, r3, r4, r5, r6, r7, hlF]) rfl ?_
        rw [HOV2.out]
        exact ⟨rfl, hWf⟩
      next =>
        have hF : Blok ((((((((w4.setCell ⟨(w.heap.size + 1 + 1), 0, none⟩ (.int .i64 x.id)).setCell ⟨(w.heap.size + 1 + 1), 1, none⟩ (.int .i64 x.fr)).setCell ⟨(w.heap.size + 1 + 1), 2, none⟩ (.int .i64 x.tn)).setCell ⟨(w.heap.size + 1 + 1), 3, none⟩ (.int .i64 1099511627776)).setCell ⟨(w.heap.size + 1 + 1), 4, none⟩ (.int .i64 x.en)).setCell ⟨(w.heap.size + 1 + 1), 5, none⟩ (.int .i64 x.rt)).setCell ⟨(w.heap.size + 1 + 1), 6, none⟩ (.int .i64 v)).setCell ⟨(w.heap.size + 1 + 1), 7, none⟩ (.int .i64 rm)) (w.heap.size + 1 + 1) 34 #[.int .i64 x.id, .int .i64 x.fr, .int .i64 x.tn, .int .i64 1099511627776, .int .i64 x.en, .int .i64 x.rt, .int .i64 v, .int .i64 rm] := by have h := ((((((((hX.set_ 0 (.int .i64 x.id)).set_ 1 (.int .i64 x.fr)).set_ 2 (.int .i64 x.tn)).set_ 3 (.int .i64 1099511627776)).set_ 4 (.int .i64 x.en)).set_ 5 (.int .i64 x.rt)).set_ 6 (.int .i64 v)).set_ 7 (.int .i64 rm)); simpa using h
        have hle0 : w.heap.size ≤ (w.heap.size + 1 + 1) := by first | exact Nat.le_refl _ | omega
        have hWf : Below w.heap.size w ((((((((w4.setCell ⟨(w.heap.size + 1 + 1), 0, none⟩ (.int .i64 x.id)).setCell ⟨(w.heap.size + 1 + 1), 1, none⟩ (.int .i64 x.fr)).setCell ⟨(w.heap.size + 1 + 1), 2, none⟩ (.int .i64 x.tn)).setCell ⟨(w.heap.size + 1 + 1), 3, none⟩ (.int .i64 1099511627776)).setCell ⟨(w.heap.size + 1 + 1), 4, none⟩ (.int .i64 x.en)).setCell ⟨(w.heap.size + 1 + 1), 5, none⟩ (.int .i64 x.rt)).setCell ⟨(w.heap.size + 1 + 1), 6, none⟩ (.int .i64 v)).setCell ⟨(w.heap.size + 1 + 1), 7, none⟩ (.int .i64 rm)) := ((((((((hB4.setCell (p := ⟨(w.heap.size + 1 + 1), 0, none⟩) hle0 (.int .i64 x.id)).setCell (p := ⟨(w.heap.size + 1 + 1), 1, none⟩) hle0 (.int .i64 x.fr)).setCell (p := ⟨(w.heap.size + 1 + 1), 2, none⟩) hle0 (.int .i64 x.tn)).setCell (p := ⟨(w.heap.size + 1 + 1), 3, none⟩) hle0 (.int .i64 1099511627776)).setCell (p := ⟨(w.heap.size + 1 + 1), 4, none⟩) hle0 (.int .i64 x.en)).setCell (p := ⟨(w.heap.size + 1 + 1), 5, none⟩) hle0 (.int .i64 x.rt)).setCell (p := ⟨(w.heap.size + 1 + 1), 6, none⟩) hle0 (.int .i64 v)).setCell (p := ⟨(w.heap.size + 1 + 1), 7, none⟩) hle0 (.int .i64 rm))
        have hlF := hF.lt
        generalize ((((((((w4.setCell ⟨(w.heap.size + 1 + 1), 0, none⟩ (.int .i64 x.id)).setCell ⟨(w.heap.size + 1 + 1), 1, none⟩ (.int .i64 x.fr)).setCell ⟨(w.heap.size + 1 + 1), 2, none⟩ (.int .i64 x.tn)).setCell ⟨(w.heap.size + 1 + 1), 3, none⟩ (.int .i64 1099511627776)).setCell ⟨(w.heap.size + 1 + 1), 4, none⟩ (.int .i64 x.en)).setCell ⟨(w.heap.size + 1 + 1), 5, none⟩ (.int .i64 x.rt)).setCell ⟨(w.heap.size + 1 + 1), 6, none⟩ (.int .i64 v)).setCell ⟨(w.heap.size + 1 + 1), 7, none⟩ (.int .i64 rm)) = wf at *
        have r0 : wf.cell? ⟨(w.heap.size + 1 + 1), 0, none⟩ = some (.int .i64 x.id) := hF.cell 0
        have r1 : wf.cell? ⟨(w.heap.size + 1 + 1), 1, none⟩ = some (.int .i64 x.fr) := hF.cell 1
        have r2 : wf.cell? ⟨(w.heap.size + 1 + 1), 2, none⟩ = some (.int .i64 x.tn) := hF.cell 2
        have r3 : wf.cell? ⟨(w.heap.size + 1 + 1), 3, none⟩ = some (.int .i64 1099511627776) := hF.cell 3
        have r4 : wf.cell? ⟨(w.heap.size + 1 + 1), 4, none⟩ = some (.int .i64 x.en) := hF.cell 4
        have r5 : wf.cell? ⟨(w.heap.size + 1 + 1), 5, none⟩ = some (.int .i64 x.rt) := hF.cell 5
        have r6 : wf.cell? ⟨(w.heap.size + 1 + 1), 6, none⟩ = some (.int .i64 v) := hF.cell 6
        have r7 : wf.cell? ⟨(w.heap.size + 1 + 1), 7, none⟩ = some (.int .i64 rm) := hF.cell 7
        refine bodyPost_ret (v := .tuple #[.agg #[.int .i64 x.id, .int .i64 x.fr, .int .i64 x.tn, .int .i64 1099511627776, .int .i64 x.en, .int .i64 x.rt, .int .i64 v, .int .i64 rm], .bool true]) (by simp [results, Try.results13, go_sem, r0, r1, r2, r3, r4, r5, r6, r7, hlF]) rfl ?_
        rw [HOV2.out]
        exact ⟨rfl, hWf⟩
      next =>
        have hF : Blok ((((((((w4.setCell ⟨(w.heap.size + 1 + 1), 0, none⟩ (.int .i64 x.id)).setCell ⟨(w.heap.size + 1 + 1), 1, none⟩ (.int .i64 x.fr)).setCell ⟨(w.heap.size + 1 + 1), 2, none⟩ (.int .i64 x.tn)).setCell ⟨(w.heap.size + 1 + 1), 3, none⟩ (.int .i64 (x.st + 1099511627776))).setCell ⟨(w.heap.size + 1 + 1), 4, none⟩ (.int .i64 x.en)).setCell ⟨(w.heap.size + 1 + 1), 5, none⟩ (.int .i64 x.rt)).setCell ⟨(w.heap.size + 1 + 1), 6, none⟩ (.int .i64 v)).setCell ⟨(w.heap.size + 1 + 1), 7, none⟩ (.int .i64 rm)) (w.heap.size + 1 + 1) 34 #[.int .i64 x.id, .int .i64 x.fr, .int .i64 x.tn, .int .i64 (x.st + 1099511627776), .int .i64 x.en, .int .i64 x.rt, .int .i64 v, .int .i64 rm] := by have h := ((((((((hX.set_ 0 (.int .i64 x.id)).set_ 1 (.int .i64 x.fr)).set_ 2 (.int .i64 x.tn)).set_ 3 (.int .i64 (x.st + 1099511627776))).set_ 4 (.int .i64 x.en)).set_ 5 (.int .i64 x.rt)).set_ 6 (.int .i64 v)).set_ 7 (.int .i64 rm)); simpa using h
        have hle0 : w.heap.size ≤ (w.heap.size + 1 + 1) := by first | exact Nat.le_refl _ | omega
        have hWf : Below w.heap.size w ((((((((w4.setCell ⟨(w.heap.size + 1 + 1), 0, none⟩ (.int .i64 x.id)).setCell ⟨(w.heap.size + 1 + 1), 1, none⟩ (.int .i64 x.fr)).setCell ⟨(w.heap.size + 1 + 1), 2, none⟩ (.int .i64 x.tn)).setCell ⟨(w.heap.size + 1 + 1), 3, none⟩ (.int .i64 (x.st + 1099511627776))).setCell ⟨(w.heap.size + 1 + 1), 4, none⟩ (.int .i64 x.en)).setCell ⟨(w.heap.size + 1 + 1), 5, none⟩ (.int .i64 x.rt)).setCell ⟨(w.heap.size + 1 + 1), 6, none⟩ (.int .i64 v)).setCell ⟨(w.heap.size + 1 + 1), 7, none⟩ (.int .i64 rm)) := ((((((((hB4.setCell (p := ⟨(w.heap.size + 1 + 1), 0, none⟩) hle0 (.int .i64 x.id)).setCell (p := ⟨(w.heap.size + 1 + 1), 1, none⟩) hle0 (.int .i64 x.fr)).setCell (p := ⟨(w.heap.size + 1 + 1), 2, none⟩) hle0 (.int .i64 x.tn)).setCell (p := ⟨(w.heap.size + 1 + 1), 3, none⟩) hle0 (.int .i64 (x.st + 1099511627776))).setCell (p := ⟨(w.heap.size + 1 + 1), 4, none⟩) hle0 (.int .i64 x.en)).setCell (p := ⟨(w.heap.size + 1 + 1), 5, none⟩) hle0 (.int .i64 x.rt)).setCell (p := ⟨(w.heap.size + 1 + 1), 6, none⟩) hle0 (.int .i64 v)).setCell (p := ⟨(w.heap.size + 1 + 1), 7, none⟩) hle0 (.int .i64 rm))
        have hlF := hF.lt
        generalize ((((((((w4.setCell ⟨(w.heap.size + 1 + 1), 0, none⟩ (.int .i64 x.id)).setCell ⟨(w.heap.size + 1 + 1), 1, none⟩ (.int .i64 x.fr)).setCell ⟨(w.heap.size + 1 + 1), 2, none⟩ (.int .i64 x.tn)).setCell ⟨(w.heap.size + 1 + 1), 3, none⟩ (.int .i64 (x.st + 1099511627776))).setCell ⟨(w.heap.size + 1 + 1), 4, none⟩ (.int .i64 x.en)).setCell ⟨(w.heap.size + 1 + 1), 5, none⟩ (.int .i64 x.rt)).setCell ⟨(w.heap.size + 1 + 1), 6, none⟩ (.int .i64 v)).setCell ⟨(w.heap.size + 1 + 1), 7, none⟩ (.int .i64 rm)) = wf at *
        have r0 : wf.cell? ⟨(w.heap.size + 1 + 1), 0, none⟩ = some (.int .i64 x.id) := hF.cell 0
        have r1 : wf.cell? ⟨(w.heap.size + 1 + 1), 1, none⟩ = some (.int .i64 x.fr) := hF.cell 1
        have r2 : wf.cell? ⟨(w.heap.size + 1 + 1), 2, none⟩ = some (.int .i64 x.tn) := hF.cell 2
        have r3 : wf.cell? ⟨(w.heap.size + 1 + 1), 3, none⟩ = some (.int .i64 (x.st + 1099511627776)) := hF.cell 3
        have r4 : wf.cell? ⟨(w.heap.size + 1 + 1), 4, none⟩ = some (.int .i64 x.en) := hF.cell 4
        have r5 : wf.cell? ⟨(w.heap.size + 1 + 1), 5, none⟩ = some (.int .i64 x.rt) := hF.cell 5
        have r6 : wf.cell? ⟨(w.heap.size + 1 + 1), 6, none⟩ = some (.int .i64 v) := hF.cell 6
        have r7 : wf.cell? ⟨(w.heap.size + 1 + 1), 7, none⟩ = some (.int .i64 rm) := hF.cell 7
        refine bodyPost_ret (v := .tuple #[.agg #[.int .i64 x.id, .int .i64 x.fr, .int .i64 x.tn, .int .i64 (x.st + 1099511627776), .int .i64 x.en, .int .i64 x.rt, .int .i64 v, .int .i64 rm], .bool true]) (by simp [results, Try.results13, go_sem, r0, r1, r2, r3, r4, r5, r6, r7, hlF]) rfl ?_
        rw [HOV2.out]
        exact ⟨rfl, hWf⟩
      next =>
        have hF : Blok ((((((((w4.setCell ⟨(w.heap.size + 1 + 1), 0, none⟩ (.int .i64 x.id)).setCell ⟨(w.heap.size + 1 + 1), 1, none⟩ (.int .i64 x.fr)).setCell ⟨(w.heap.size + 1 + 1), 2, none⟩ (.int .i64 x.tn)).setCell ⟨(w.heap.size + 1 + 1), 3, none⟩ (.int .i64 1099511627776)).setCell ⟨(w.heap.size + 1 + 1), 4, none⟩ (.int .i64 x.en)).setCell ⟨(w.heap.size + 1 + 1), 5, none⟩ (.int .i64 x.rt)).setCell ⟨(w.heap.size + 1 + 1), 6, none⟩ (.int .i64 v)).setCell ⟨(w.heap.size + 1 + 1), 7, none⟩ (.int .i64 rm)) (w.heap.size + 1 + 1) 34 #[.int .i64 x.id, .int .i64 x.fr, .int .i64 x.tn, .int .i64 1099511627776, .int .i64 x.en, .int .i64 x.rt, .int .i64 v, .int .i64 rm] := by have h := ((((((((hX.set_ 0 (.int .i64 x.id)).set_ 1 (.int .i64 x.fr)).set_ 2 (.int .i64 x.tn)).set_ 3 (.int .i64 1099511627776)).set_ 4 (.int .i64 x.en)).set_ 5 (.int .i64 x.rt)).set_ 6 (.int .i64 v)).set_ 7 (.int .i64 rm)); simpa using h
        have hle0 : w.heap.size ≤ (w.heap.size + 1 + 1) := by first | exact Nat.le_refl _ | omega
        have hWf : Below w.heap.size w ((((((((w4.setCell ⟨(w.heap.size + 1 + 1), 0, none⟩ (.int .i64 x.id)).setCell ⟨(w.heap.size + 1 + 1), 1, none⟩ (.int .i64 x.fr)).setCell ⟨(w.heap.size + 1 + 1), 2, none⟩ (.int .i64 x.tn)).setCell ⟨(w.heap.size + 1 + 1), 3, none⟩ (.int .i64 1099511627776)).setCell ⟨(w.heap.size + 1 + 1), 4, none⟩ (.int .i64 x.en)).setCell ⟨(w.heap.size + 1 + 1), 5, none⟩ (.int .i64 x.rt)).setCell ⟨(w.heap.size + 1 + 1), 6, none⟩ (.int .i64 v)).setCell ⟨(w.heap.size + 1 + 1), 7, none⟩ (.int .i64 rm)) := ((((((((hB4.setCell (p := ⟨(w.heap.size + 1 + 1), 0, none⟩) hle0 (.int .i64 x.id)).setCell (p := ⟨(w.heap.size + 1 + 1), 1, none⟩) hle0 (.int .i64 x.fr)).setCell (p := ⟨(w.heap.size + 1 + 1), 2, none⟩) hle0 (.int .i64 x.tn)).setCell (p := ⟨(w.heap.size + 1 + 1), 3, none⟩) hle0 (.int .i64 1099511627776)).setCell (p := ⟨(w.heap.size + 1 + 1), 4, none⟩) hle0 (.int .i64 x.en)).setCell (p := ⟨(w.heap.size + 1 + 1), 5, none⟩) hle0 (.int .i64 x.rt)).setCell (p := ⟨(w.heap.size + 1 + 1), 6, none⟩) hle0 (.int .i64 v)).setCell (p := ⟨(w.heap.size + 1 + 1), 7, none⟩) hle0 (.int .i64 rm))
        have hlF := hF.lt
        generalize ((((((((w4.setCell ⟨(w.heap.size + 1 + 1), 0, none⟩ (.int .i64 x.id)).setCell ⟨(w.heap.size + 1 + 1), 1, none⟩ (.int .i64 x.fr)).setCell ⟨(w.heap.size + 1 + 1), 2, none⟩ (.int .i64 x.tn)).setCell ⟨(w.heap.size + 1 + 1), 3, none⟩ (.int .i64 1099511627776)).setCell ⟨(w.heap.size + 1 + 1), 4, none⟩ (.int .i64 x.en)).setCell ⟨(w.heap.size + 1 + 1), 5, none⟩ (.int .i64 x.rt)).setCell ⟨(w.heap.size + 1 + 1), 6, none⟩ (.int .i64 v)).setCell ⟨(w.heap.size + 1 + 1), 7, none⟩ (.int .i64 rm)) = wf at *
        have r0 : wf.cell? ⟨(w.heap.size + 1 + 1), 0, none⟩ = some (.int .i64 x.id) := hF.cell 0
        have r1 : wf.cell? ⟨(w.heap.size + 1 + 1), 1, none⟩ = some (.int .i64 x.fr) := hF.cell 1
        have r2 : wf.cell? ⟨(w.heap.size + 1 + 1), 2, none⟩ = some (.int .i64 x.tn) := hF.cell 2
        have r3 : wf.cell? ⟨(w.heap.size + 1 + 1), 3, none⟩ = some (.int .i64 1099511627776) := hF.cell 3
        have r4 : wf.cell? ⟨(w.heap.size + 1 + 1), 4, none⟩ = some (.int .i64 x.en) := hF.cell 4
        have r5 : wf.cell? ⟨(w.heap.size + 1 + 1), 5, none⟩ = some (.int .i64 x.rt) := hF.cell 5
        have r6 : wf.cell? ⟨(w.heap.size + 1 + 1), 6, none⟩ = some (.int .i64 v) := hF.cell 6
        have r7 : wf.cell? ⟨(w.heap.size + 1 + 1), 7, none⟩ = some (.int .i64 rm) := hF.cell 7
        refine bodyPost_ret (v := .tuple #[.agg #[.int .i64 x.id, .int .i64 x.fr, .int .i64 x.tn, .int .i64 1099511627776, .int .i64 x.en, .int .i64 x.rt, .int .i64 v, .int .i64 rm], .bool true]) (by simp [results, Try.results13, go_sem, r0, r1, r2, r3, r4, r5, r6, r7, hlF]) rfl ?_
        rw [HOV2.out]
        exact ⟨rfl, hWf⟩
end Go.Proofs.Ytfdphpmcgidmiaa
