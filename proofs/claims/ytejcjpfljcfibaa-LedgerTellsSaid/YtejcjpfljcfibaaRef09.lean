/- The document's own ledger: classes, who has what, the same, a copy. -/
import Derived.Test.YtejcjpfljcfibaaLedgerMath
namespace Go.Proofs.Ytejcjpfljcfibaa
open Go.ChangeShapes Go.WideShapes Go.ChangeAt Go.RowKit Go.Sort
set_option linter.unusedSimpArgs false
set_option linter.unusedVariables false
theorem rclass_any (cl : Int) (w : World) (b : Bool) (hb : inB cl 0 2 = b) :
    Calls Try.prog 34 #[.int .i64 cl] w fun e w' => e = .returned (.bool b) ∧ w = w' := by
  subst hb
  by_cases h1 : 0 ≤ cl <;> by_cases h2 : cl ≤ 2 <;>
  · go_enter Try.func34, Try.ntmps34
    go_wp2
    go_ret
    exact ⟨by simp [inB, h1, h2] <;> omega, rfl⟩
set_option maxHeartbeats 1000000 in
set_option maxRecDepth 100000 in
theorem rused_any (A : Option Addr) (n c : Nat) (d : List Bk) (id : Int) (w : World) (hd : d.length = n) (hn : n ≤ 1000000) (h : Sl w w.heap.size 4 A n c (flatBk d)) (hs : SortB d) (x : Bk) (hx : rowB d id = x) :
    Calls Try.prog 22 #[.slice A n c, .int .i64 id] w fun e w' => e = .returned (.agg #[.int .i64 x.ua, .int .i64 x.ub, .int .i64 x.uc]) ∧ Below w.heap.size w w' := by
  have hBa : Below w.heap.size w (w.alloc (.cells #[.int .i64 0, .int .i64 0, .int .i64 0] 38)) := by (repeat (first | exact Below.refl _ _ | refine Below.alloc ?_ (by first | omega | (simp; done) | (simp; omega)) _ | refine Below.setCell ?_ (by first | omega | (simp; done) | (simp; omega)) _ | refine Below.drew ?_))
  have hX := Blok.new w 38 #[.int .i64 0, .int .i64 0, .int .i64 0]
  have hl := h.up hBa
  have HD := Lib.hid hd
  have HS := Lib.hid hs
  have HXX := Lib.hid hx
  clear h hd hs hx
  go_enter Try.func22, Try.ntmps22
  go_wp2
  generalize w.alloc (.cells #[.int .i64 0, .int .i64 0, .int .i64 0] 38) = w2 at *
  have HL := Lib.hid hl
  have HX := Lib.hid hX
  have HB := Lib.hid hBa
  clear hl hX hBa
  go_loopw [5] (fun iv wr => ∃ (i : Nat), iv = .int .i64 i ∧ i ≤ n ∧ Hid (∀ j, j < i → (gBk d j).id ≠ id) ∧ w2 = wr) (fun iv _ => n - (intOf iv).toNat)
  case atStart => exact ⟨0, rfl, by omega, fun j hj => by omega, rfl⟩
  case round =>
    obtain ⟨i, rfl, hi, HN, rfl⟩ := hrel
    have hX := HX.out
    have hBa := HB.out
    have r0 : w2.cell? ⟨w.heap.size, 0, none⟩ = some (.int .i64 0) := hX.cell 0
    have r1 : w2.cell? ⟨w.heap.size, 1, none⟩ = some (.int .i64 0) := hX.cell 1
    have r2 : w2.cell? ⟨w.heap.size, 2, none⟩ = some (.int .i64 0) := hX.cell 2
    have f0 := hX.free 0
    have f1 := hX.free 1
    have f2 := hX.free 2
    have hlt := hX.lt
    by_cases hin : i < n
    · obtain ⟨ad, rfl, hab, c0, c1, c2, c3⟩ := HL.out.lst.atBk HD.out hin
      by_cases he : (gBk d i).id = id
      · have hxi : gBk d i = x := by
          have := rowB_mem HS.out (x := gBk d i) (gBk_mem (by rw [HD.out]; exact hin))
          rw [he, HXX.out] at this
          exact this.symm
        have hq : ((gBk d i).id == id) = true := beq_iff_eq.2 he
        rw [hxi] at c0 c1 c2 c3 hq
        have HXB := Lib.hid hX
        clear he hxi HX HB hX
        go_wp2
        have hX := HXB.out
        clear r0 r1 r2
        have hF : Blok (((w2.setCell ⟨w.heap.size, 0, none⟩ (.int .i64 x.ua)).setCell ⟨w.heap.size, 1, none⟩ (.int .i64 x.ub)).setCell ⟨w.heap.size, 2, none⟩ (.int .i64 x.uc)) w.heap.size 38 #[.int .i64 x.ua, .int .i64 x.ub, .int .i64 x.uc] := by have h := (((hX.set_ 0 (.int .i64 x.ua)).set_ 1 (.int .i64 x.ub)).set_ 2 (.int .i64 x.uc)); simpa using h
        have hle0 : w.heap.size ≤ w.heap.size := by first | exact Nat.le_refl _ | omega
        have hWf : Below w.heap.size w (((w2.setCell ⟨w.heap.size, 0, none⟩ (.int .i64 x.ua)).setCell ⟨w.heap.size, 1, none⟩ (.int .i64 x.ub)).setCell ⟨w.heap.size, 2, none⟩ (.int .i64 x.uc)) := (((hBa.setCell (p := ⟨w.heap.size, 0, none⟩) hle0 (.int .i64 x.ua)).setCell (p := ⟨w.heap.size, 1, none⟩) hle0 (.int .i64 x.ub)).setCell (p := ⟨w.heap.size, 2, none⟩) hle0 (.int .i64 x.uc))
        have hlF := hF.lt
        generalize (((w2.setCell ⟨w.heap.size, 0, none⟩ (.int .i64 x.ua)).setCell ⟨w.heap.size, 1, none⟩ (.int .i64 x.ub)).setCell ⟨w.heap.size, 2, none⟩ (.int .i64 x.uc)) = wf at *
        have r0 : wf.cell? ⟨w.heap.size, 0, none⟩ = some (.int .i64 x.ua) := hF.cell 0
        have r1 : wf.cell? ⟨w.heap.size, 1, none⟩ = some (.int .i64 x.ub) := hF.cell 1
        have r2 : wf.cell? ⟨w.heap.size, 2, none⟩ = some (.int .i64 x.uc) := hF.cell 2
        refine bodyPost_ret (v := .agg #[.int .i64 x.ua, .int .i64 x.ub, .int .i64 x.uc]) (by simp [results, Try.results22, go_sem, r0, r1, r2, hlF]) rfl ?_
        exact ⟨rfl, hWf⟩
      · have hq : ((gBk d i).id == id) = false := beq_eq_false_iff_ne.2 he
        have HN2 : Hid (∀ j, j < i + 1 → (gBk d j).id ≠ id) := fun j hj => by
          by_cases e : j = i
          · subst e; exact he
          · exact HN.out j (by omega)
        clear he hX r0 r1 r2 f0 f1 f2
        go_wp2_with fail
        go_roundw
        case rel => exact ⟨i + 1, by go_num, by omega, HN2, by first | rfl | trivial⟩
        case measure => simp [intOf]; omega
    · have hz : x = ⟨id, 0, 0, 0⟩ := by
        rw [← HXX.out]
        exact rowB_none (fun y hy => by
          obtain ⟨j, hj, rfl⟩ := mem_gBk hy
          exact HN.out j (by rw [HD.out] at hj; omega))
      subst hz
      have HXB := Lib.hid hX
      clear hX HN
      go_wp2
      have hX := HXB.out
      clear r0 r1 r2
      have hF : Blok (((w2.setCell ⟨w.heap.size, 0, none⟩ (.int .i64 0)).setCell ⟨w.heap.size, 1, none⟩ (.int .i64 0)).setCell ⟨w.heap.size, 2, none⟩ (.int .i64 0)) w.heap.size 38 #[.int .i64 0, .int .i64 0, .int .i64 0] := by have h := (((hX.set_ 0 (.int .i64 0)).set_ 1 (.int .i64 0)).set_ 2 (.int .i64 0)); simpa using h
      have hle0 : w.heap.size ≤ w.heap.size := by first | exact Nat.le_refl _ | omega
      have hWf : Below w.heap.size w (((w2.setCell ⟨w.heap.size, 0, none⟩ (.int .i64 0)).setCell ⟨w.heap.size, 1, none⟩ (.int .i64 0)).setCell ⟨w.heap.size, 2, none⟩ (.int .i64 0)) := (((hBa.setCell (p := ⟨w.heap.size, 0, none⟩) hle0 (.int .i64 0)).setCell (p := ⟨w.heap.size, 1, none⟩) hle0 (.int .i64 0)).setCell (p := ⟨w.heap.size, 2, none⟩) hle0 (.int .i64 0))
      have hlF := hF.lt
      generalize (((w2.setCell ⟨w.heap.size, 0, none⟩ (.int .i64 0)).setCell ⟨w.heap.size, 1, none⟩ (.int .i64 0)).setCell ⟨w.heap.size, 2, none⟩ (.int .i64 0)) = wf at *
      have r0 : wf.cell? ⟨w.heap.size, 0, none⟩ = some (.int .i64 0) := hF.cell 0
      have r1 : wf.cell? ⟨w.heap.size, 1, none⟩ = some (.int .i64 0) := hF.cell 1
      have r2 : wf.cell? ⟨w.heap.size, 2, none⟩ = some (.int .i64 0) := hF.cell 2
      refine bodyPost_ret (v := .agg #[.int .i64 0, .int .i64 0, .int .i64 0]) (by simp [results, Try.results22, go_sem, r0, r1, r2, hlF]) rfl ?_
      exact ⟨rfl, hWf⟩
set_option maxHeartbeats 1000000 in
set_option maxRecDepth 100000 in
theorem rsame9_any (A A' : Option Addr) (n c n' c' : Nat) (d d' : List Bk) (w : World) (hd : d.length = n) (hd' : d'.length = n') (hn : n ≤ 1000000) (h : Sl w w.heap.size 4 A n c (flatBk d)) (h' : Sl w w.heap.size 4 A' n' c' (flatBk d')) :
    Calls Try.prog 13 #[.slice A n c, .slice A' n' c'] w fun e w' => e = .returned (.bool (decide (d = d'))) ∧ Below w.heap.size w w' := by
  have HD := Lib.hid hd
  have HD' := Lib.hid hd'
  clear hd hd'
  by_cases hl : n = n'
  · subst hl
    have HL := Lib.hid h
    have HL' := Lib.hid h'
    clear h h'
    go_enter Try.func13, Try.ntmps13
    go_wp2
    go_loopw [5] (fun iv wr => ∃ (i : Nat), iv = .int .i64 i ∧ i ≤ n ∧ Hid (d.take i = d'.take i) ∧ Below w.heap.size w wr) (fun iv _ => n - (intOf iv).toNat)
    case atStart => exact ⟨0, rfl, by omega, by simp [Hid], Below.refl _ _⟩
    case round =>
      obtain ⟨i, rfl, hi, HE, hB⟩ := hrel
      by_cases hin : i < n
      · obtain ⟨ad, rfl, hab, c0, c1, c2, c3⟩ := (HL.out.below hB).lst.atBk HD.out hin
        obtain ⟨ad', rfl, hab', c0', c1', c2', c3'⟩ := (HL'.out.below hB).lst.atBk HD'.out hin
        have hrun : ∀ w0, (binOp .neq 43 (.agg #[.int .i64 (gBk d i).id, .int .i64 (gBk d i).ua, .int .i64 (gBk d i).ub, .int .i64 (gBk d i).uc]) (.agg #[.int .i64 (gBk d' i).id, .int .i64 (gBk d' i).ua, .int .i64 (gBk d' i).ub, .int .i64 (gBk d' i).uc])).run Try.prog w0 = .ok (.bool (!decide (gBk d i = gBk d' i))) w0 := fun w0 => neqBk (gBk d i) (gBk d' i) w0
        by_cases he : gBk d i = gBk d' i
        · have HE2 : Hid (d.take (i + 1) = d'.take (i + 1)) := by
            show d.take (i + 1) = d'.take (i + 1)
            rw [take_nextBk (by rw [HD.out]; exact hin), take_nextBk (by rw [HD'.out]; exact hin), HE.out, he]
          rw [decide_eq_true he] at hrun
          simp only [Bool.not_true] at hrun
          clear HE he
          go_wp2_with fail
          have q_c0 := fun d os => cell_regrown c0 d os
          have q_c1 := fun d os => cell_regrown c1 d os
          have q_c2 := fun d os => cell_regrown c2 d os
          have q_c3 := fun d os => cell_regrown c3 d os
          have q_c0' := fun d os => cell_regrown c0' d os
          have q_c1' := fun d os => cell_regrown c1' d os
          have q_c2' := fun d os => cell_regrown c2' d os
          have q_c3' := fun d os => cell_regrown c3' d os
          try simp only [List.append]
          first | refine wp_region_text_below ?_ | refine wp_region_quiet_below (by kernel_rfl) (by kernel_rfl) ?_
          repeat (go_big_quiet_step ((fail)))
          refine wpQuiet_nil ?_
          intro _ hqw
          obtain ⟨pq, hqw⟩ := hqw
          subst hqw
          clear q_c0 q_c1 q_c2 q_c3 q_c0' q_c1' q_c2' q_c3'
          have hbq := hB.trans ((below_regrown wr pq.d pq.os).mono hB.size)
          clear c0 c1 c2 c3 c0' c1' c2' c3' hrun
          generalize grow (redrawn wr pq.d) pq.os = wq at *
          go_wp2_with fail
          go_roundw
          case rel => exact ⟨i + 1, by go_num, by omega, HE2, hbq⟩
          case measure => simp [intOf]; omega
        · have hne : d ≠ d' := fun e => he (by rw [e])
          have HNE := Lib.hid hne
          rw [decide_eq_false he] at hrun
          simp only [Bool.not_false] at hrun
          clear hne he
          go_wp2_with fail
          have q_c0 := fun d os => cell_regrown c0 d os
          have q_c1 := fun d os => cell_regrown c1 d os
          have q_c2 := fun d os => cell_regrown c2 d os
          have q_c3 := fun d os => cell_regrown c3 d os
          have q_c0' := fun d os => cell_regrown c0' d os
          have q_c1' := fun d os => cell_regrown c1' d os
          have q_c2' := fun d os => cell_regrown c2' d os
          have q_c3' := fun d os => cell_regrown c3' d os
          try simp only [List.append]
          first | refine wp_region_text_below ?_ | refine wp_region_quiet_below (by kernel_rfl) (by kernel_rfl) ?_
          repeat (go_big_quiet_step ((fail)))
          refine wpQuiet_nil ?_
          intro _ hqw
          obtain ⟨pq, hqw⟩ := hqw
          subst hqw
          clear q_c0 q_c1 q_c2 q_c3 q_c0' q_c1' q_c2' q_c3'
          have hbq := hB.trans ((below_regrown wr pq.d pq.os).mono hB.size)
          clear c0 c1 c2 c3 c0' c1' c2' c3' hrun
          generalize grow (redrawn wr pq.d) pq.os = wq at *
          go_wp2_with fail
          go_ret
          exact ⟨by rw [decide_eq_false HNE.out]; rfl, hbq⟩
      · have hie : i = n := by omega
        subst hie
        have hdd : d = d' := by
          have := HE.out
          rw [List.take_of_length_le (by rw [HD.out]; omega), List.take_of_length_le (by rw [HD'.out]; omega)] at this
          exact this
        have HDD := Lib.hid hdd
        clear hdd
        go_wp2_with fail
        go_ret
        exact ⟨by rw [decide_eq_true HDD.out]; rfl, hB⟩
  · have hne : d ≠ d' := fun e => hl (by rw [← HD.out, ← HD'.out, e])
    have hb : ((n : Int) != (n' : Int)) = true := by simp; omega
    have HNE := Lib.hid hne
    clear hl hne
    go_enter Try.func13, Try.ntmps13
    go_wp2
    go_ret
    exact ⟨by rw [decide_eq_false HNE.out]; rfl, Below.refl _ _⟩
set_option maxHeartbeats 1000000 in
set_option maxRecDepth 100000 in
theorem rcopy_any (A : Option Addr) (n c : Nat) (d : List Bk) (w : World) (hd : d.length = n) (hn : n ≤ 1000000) (h : Sl w w.heap.size 4 A n c (flatBk d)) :
    Calls Try.prog 14 #[.slice A n c] w fun e w' => ∃ v, e = .returned v ∧ w'.ownsRow w.heap.size 43 4 v n (flatBk d) ∧ Below w.heap.size w w' := by
  obtain ⟨i0, hi0, hz0, hz1, hz2⟩ := info_parts infoBk
  go_enter Try.func14, Try.ntmps14
  go_wp2_with (first
    | (at_builtin
       refine wpList_append_lst _ rfl (.tmp 3) (.tmp 4) 22 rfl w.heap.size 43 i0 _ 4 32 Try.underlying22 hi0 hz0 hz1 hz2 rfl (by decide) (.slice (some ⟨w.heap.size, 0, none⟩) 0 0) 0 [] rfl (World.ownsRow_made w #[] 0 (Nat.le_refl _) (by simp) (by simp)) w.heap.size A n c (flatBk d) rfl (h.lst.below ((Below.refl _ _).alloc (Nat.le_refl _) _)) (flatBk_one _) (by unfold maxLen; omega) (by omega) (by simp) ?_
       intro v1 w1 hown hg hat))
  go_ret
  refine ⟨_, rfl, by simpa using hown, Below.grown ((Below.refl _ _).alloc (Nat.le_refl _) _) hg (by simp) (fun k hk => ?_)⟩
  simp [Value.ownBlock] at hk
  omega
end Go.Proofs.Ytejcjpfljcfibaa
