/- The document's own directives: Same. -/
import Derived.Test.YtolaabllhibkdaaGreatGK
import Derived.Test.YtolaabllhibkdaaGreatGA
import Derived.Test.YtolaabllhibkdaaGreatRef07b
namespace Go.Proofs.YtolaabllhibkdaaGreat
open Go.ChangeShapes Go.WideShapes Go.ChangeAt Go.RowKit Go.Sort
set_option linter.unusedSimpArgs false
set_option linter.unusedVariables false
set_option maxHeartbeats 1000000 in
set_option maxRecDepth 100000 in
theorem rsame5_any (A A':Option Addr) (n c n' c':Nat) (d d':List Dr) (w:World) (hd:d.length = n) (hd':d'.length = n') (hn:n ≤ 1000000) (h:Sl w w.heap.size 13 A n c (flatDr d)) (h':Sl w w.heap.size 13 A' n' c' (flatDr d')) :
  Calls Tryz.prog 19 #[.slice A n c,.slice A' n' c'] w fun e w' => e = .returned (.bool (decide (d = d'))) ∧ Below w.heap.size w w':=by
 have HD:=Lib.hid hd
 have HD':=Lib.hid hd'
 clear hd hd'
 by_cases hl:n = n'
 ·subst hl
  have HL:=Lib.hid h
  have HL':=Lib.hid h'
  clear h h'
  go_enter Tryz.func19,Tryz.ntmps19
  go_wp2
  go_loopw [5] (fun iv wr => ∃ (i:Nat),iv = .int .i64 i ∧ i ≤ n ∧ Hid (d.take i = d'.take i) ∧ Below w.heap.size w wr) (fun iv _ => n - (intOf iv).toNat)
  case atStart => exact ⟨0,rfl,by omega,by simp [Hid],Below.refl _ _⟩
  case round =>
   obtain ⟨i,rfl,hi,HE,hB⟩:=hrel
   by_cases hin:i < n
   ·obtain ⟨ad,rfl,hab,c0,c1,c2,c3,c4,c5,c6,c7,c8,c9,c10,c11,c12⟩:=(HL.out.below hB).lst.atDr HD.out hin
    obtain ⟨ad',rfl,hab',c0',c1',c2',c3',c4',c5',c6',c7',c8',c9',c10',c11',c12'⟩:=(HL'.out.below hB).lst.atDr HD'.out hin
    have hrun:∀ w0,(binOp .neq 37 (.agg #[.int .i64 (gDr d i).op,.int .i64 (gDr d i).kd,.int .i64 (gDr d i).id,.int .i64 (gDr d i).fr,.int .i64 (gDr d i).tn,.int .i64 (gDr d i).st,.int .i64 (gDr d i).en,.int .i64 (gDr d i).rt,.int .i64 (gDr d i).rf,.int .i64 (gDr d i).rn,.int .i64 (gDr d i).rs,.int .i64 (gDr d i).re,.int .i64 (gDr d i).ro]) (.agg #[.int .i64 (gDr d' i).op,.int .i64 (gDr d' i).kd,.int .i64 (gDr d' i).id,.int .i64 (gDr d' i).fr,.int .i64 (gDr d' i).tn,.int .i64 (gDr d' i).st,.int .i64 (gDr d' i).en,.int .i64 (gDr d' i).rt,.int .i64 (gDr d' i).rf,.int .i64 (gDr d' i).rn,.int .i64 (gDr d' i).rs,.int .i64 (gDr d' i).re,.int .i64 (gDr d' i).ro])).run Tryz.prog w0 = .ok (.bool (!decide (gDr d i = gDr d' i))) w0:=fun w0 => neqDr (gDr d i) (gDr d' i) w0
    by_cases he:gDr d i = gDr d' i
    ·have HE2:Hid (d.take (i + 1) = d'.take (i + 1)):=by
      show d.take (i + 1) = d'.take (i + 1)
      rw [take_nextDr (by rw [HD.out]; exact hin),take_nextDr (by rw [HD'.out]; exact hin),HE.out,he]
     rw [decide_eq_true he] at hrun
     simp only [Bool.not_true] at hrun
     clear HE he
     go_wp2_with fail
     have q_c0:=fun d os => cell_regrown c0 d os
     have q_c1:=fun d os => cell_regrown c1 d os
     have q_c2:=fun d os => cell_regrown c2 d os
     have q_c3:=fun d os => cell_regrown c3 d os
     have q_c4:=fun d os => cell_regrown c4 d os
     have q_c5:=fun d os => cell_regrown c5 d os
     have q_c6:=fun d os => cell_regrown c6 d os
     have q_c7:=fun d os => cell_regrown c7 d os
     have q_c8:=fun d os => cell_regrown c8 d os
     have q_c9:=fun d os => cell_regrown c9 d os
     have q_c10:=fun d os => cell_regrown c10 d os
     have q_c11:=fun d os => cell_regrown c11 d os
     have q_c12:=fun d os => cell_regrown c12 d os
     have q_c0':=fun d os => cell_regrown c0' d os
     have q_c1':=fun d os => cell_regrown c1' d os
     have q_c2':=fun d os => cell_regrown c2' d os
     have q_c3':=fun d os => cell_regrown c3' d os
     have q_c4':=fun d os => cell_regrown c4' d os
     have q_c5':=fun d os => cell_regrown c5' d os
     have q_c6':=fun d os => cell_regrown c6' d os
     have q_c7':=fun d os => cell_regrown c7' d os
     have q_c8':=fun d os => cell_regrown c8' d os
     have q_c9':=fun d os => cell_regrown c9' d os
     have q_c10':=fun d os => cell_regrown c10' d os
     have q_c11':=fun d os => cell_regrown c11' d os
     have q_c12':=fun d os => cell_regrown c12' d os
     try simp only [List.append]
     first | refine wp_region_text_below ?_ | refine wp_region_quiet_below (by kernel_rfl) (by kernel_rfl) ?_
     repeat (go_big_quiet_step ((fail)))
     refine wpQuiet_nil ?_
     intro _ hqw
     obtain ⟨pq,hqw⟩:=hqw
     subst hqw
     clear q_c0 q_c1 q_c2 q_c3 q_c4 q_c5 q_c6 q_c7 q_c8 q_c9 q_c10 q_c11 q_c12 q_c0' q_c1' q_c2' q_c3' q_c4' q_c5' q_c6' q_c7' q_c8' q_c9' q_c10' q_c11' q_c12'
     have hbq:=hB.trans ((below_regrown wr pq.d pq.os).mono hB.size)
     clear c0 c1 c2 c3 c4 c5 c6 c7 c8 c9 c10 c11 c12 c0' c1' c2' c3' c4' c5' c6' c7' c8' c9' c10' c11' c12' hrun
     generalize grow (redrawn wr pq.d) pq.os = wq at *
     go_wp2_with fail
     go_roundw
     case rel => exact ⟨i + 1,by go_num,by omega,HE2,hbq⟩
     case measure => simp [intOf]; omega
    ·have hne:d ≠ d':=fun e => he (by rw [e])
     have HNE:=Lib.hid hne
     rw [decide_eq_false he] at hrun
     simp only [Bool.not_false] at hrun
     clear hne he
     go_wp2_with fail
     have q_c0:=fun d os => cell_regrown c0 d os
     have q_c1:=fun d os => cell_regrown c1 d os
     have q_c2:=fun d os => cell_regrown c2 d os
     have q_c3:=fun d os => cell_regrown c3 d os
     have q_c4:=fun d os => cell_regrown c4 d os
     have q_c5:=fun d os => cell_regrown c5 d os
     have q_c6:=fun d os => cell_regrown c6 d os
     have q_c7:=fun d os => cell_regrown c7 d os
     have q_c8:=fun d os => cell_regrown c8 d os
     have q_c9:=fun d os => cell_regrown c9 d os
     have q_c10:=fun d os => cell_regrown c10 d os
     have q_c11:=fun d os => cell_regrown c11 d os
     have q_c12:=fun d os => cell_regrown c12 d os
     have q_c0':=fun d os => cell_regrown c0' d os
     have q_c1':=fun d os => cell_regrown c1' d os
     have q_c2':=fun d os => cell_regrown c2' d os
     have q_c3':=fun d os => cell_regrown c3' d os
     have q_c4':=fun d os => cell_regrown c4' d os
     have q_c5':=fun d os => cell_regrown c5' d os
     have q_c6':=fun d os => cell_regrown c6' d os
     have q_c7':=fun d os => cell_regrown c7' d os
     have q_c8':=fun d os => cell_regrown c8' d os
     have q_c9':=fun d os => cell_regrown c9' d os
     have q_c10':=fun d os => cell_regrown c10' d os
     have q_c11':=fun d os => cell_regrown c11' d os
     have q_c12':=fun d os => cell_regrown c12' d os
     try simp only [List.append]
     first | refine wp_region_text_below ?_ | refine wp_region_quiet_below (by kernel_rfl) (by kernel_rfl) ?_
     repeat (go_big_quiet_step ((fail)))
     refine wpQuiet_nil ?_
     intro _ hqw
     obtain ⟨pq,hqw⟩:=hqw
     subst hqw
     clear q_c0 q_c1 q_c2 q_c3 q_c4 q_c5 q_c6 q_c7 q_c8 q_c9 q_c10 q_c11 q_c12 q_c0' q_c1' q_c2' q_c3' q_c4' q_c5' q_c6' q_c7' q_c8' q_c9' q_c10' q_c11' q_c12'
     have hbq:=hB.trans ((below_regrown wr pq.d pq.os).mono hB.size)
     clear c0 c1 c2 c3 c4 c5 c6 c7 c8 c9 c10 c11 c12 c0' c1' c2' c3' c4' c5' c6' c7' c8' c9' c10' c11' c12' hrun
     generalize grow (redrawn wr pq.d) pq.os = wq at *
     go_wp2_with fail
     go_ret
     exact ⟨by rw [decide_eq_false HNE.out]; rfl,hbq⟩
   ·have hie:i = n:=by omega
    subst hie
    have hdd:d = d':=by
     have:=HE.out
     rw [List.take_of_length_le (by rw [HD.out]; omega),List.take_of_length_le (by rw [HD'.out]; omega)] at this
     exact this
    have HDD:=Lib.hid hdd
    clear hdd
    go_wp2_with fail
    go_ret
    exact ⟨by rw [decide_eq_true HDD.out]; rfl,hB⟩
 ·have hne:d ≠ d':=fun e => hl (by rw [← HD.out,← HD'.out,e])
  have hb:((n:Int) != (n':Int)) = true:=by simp; omega
  have HNE:=Lib.hid hne
  clear hl hne
  go_enter Tryz.func19,Tryz.ntmps19
  go_wp2
  go_ret
  exact ⟨by rw [decide_eq_false HNE.out]; rfl,Below.refl _ _⟩
end Go.Proofs.YtolaabllhibkdaaGreat
