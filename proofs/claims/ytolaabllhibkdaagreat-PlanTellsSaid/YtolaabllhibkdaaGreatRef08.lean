/- The document's own plans: Right. It makes new memory alone. -/
import Derived.Test.YtolaabllhibkdaaGreatGO
import Derived.Test.YtolaabllhibkdaaGreatGS
import Derived.Test.YtolaabllhibkdaaGreatRef07
namespace Go.Proofs.YtolaabllhibkdaaGreat
open Go.ChangeShapes Go.WideShapes Go.ChangeAt Go.RowKit Go.Sort
set_option linter.unusedSimpArgs false
set_option linter.unusedVariables false
theorem any_atC {cs:List Co} {clk:Int} {i:Nat} (hi:i < cs.length) (h:(gCo cs i).en ≤ clk):(cs.any fun x => decide (x.en ≤ clk)) = true:=List.any_eq_true.2 ⟨_,gCo_mem hi,decide_eq_true h⟩
theorem any_noC {cs:List Co} {clk:Int} (h:∀ j,j < cs.length → clk < (gCo cs j).en):(cs.any fun x => decide (x.en ≤ clk)) = false:=by
 rw [List.any_eq_false]
 intro x hx
 obtain ⟨j,hj,rfl⟩:=List.getElem_of_mem hx
 have:=h j hj
 rw [gCo_eq hj] at this
 simp; omega
theorem any_atR {cs:List Rg} {clk:Int} {i:Nat} (hi:i < cs.length) (h:(gRg cs i).en ≤ clk):(cs.any fun x => decide (x.en ≤ clk)) = true:=List.any_eq_true.2 ⟨_,gRg_mem hi,decide_eq_true h⟩
theorem any_noR {cs:List Rg} {clk:Int} (h:∀ j,j < cs.length → clk < (gRg cs j).en):(cs.any fun x => decide (x.en ≤ clk)) = false:=by
 rw [List.any_eq_false]
 intro x hx
 obtain ⟨j,hj,rfl⟩:=List.getElem_of_mem hx
 have:=h j hj
 rw [gRg_eq hj] at this
 simp; omega
set_option maxHeartbeats 8000000 in
set_option maxRecDepth 100000 in
theorem rright8_any (A1:Option Addr) (n1 c1:Nat) (cs:List Co) (A:Option Addr) (n c:Nat) (rs:List Rg) (clk ver:Int) (w:World) (hd1:cs.length = n1) (hn1:n1 ≤ 1000000) (hd:rs.length = n) (hn:n ≤ 1000000) (h1:Sl w w.heap.size 6 A1 n1 c1 (flatCo cs)) (h:Sl w w.heap.size 5 A n c (flatRg rs)) (b:Bool) (hb:rightP cs rs clk ver = b) :
  Calls Tryz.prog 13 #[.agg #[.slice A1 n1 c1,.slice A n c,.int .i64 clk,.int .i64 ver]] w fun e w' => e = .returned (.bool b) ∧ Below w.heap.size w w':=by
 have hB:Below w.heap.size w (w.alloc (.cells #[.slice A1 n1 c1,.slice A n c,.int .i64 clk,.int .i64 ver] 25)):=by (repeat (first | exact Below.refl _ _ | refine Below.alloc ?_ (by first | omega | (simp; done) | (simp; omega)) _ | refine Below.setCell ?_ (by first | omega | (simp; done) | (simp; omega)) _ | refine Below.drew ?_))
 have hP:=Blok.new w 25 #[.slice A1 n1 c1,.slice A n c,.int .i64 clk,.int .i64 ver]
 replace h1:=h1.up hB
 replace h:=h.up hB
 have hs:=hB.size
 have HB:=Lib.hid hb
 have HD1:=Lib.hid hd1
 have HD:=Lib.hid hd
 clear hb hd hd1
 obtain ⟨b1,q1⟩:∃ q,Kc.rightC cs = q:=⟨_,rfl⟩
 obtain ⟨b2,q2⟩:∃ q,Kr.rightB rs = q:=⟨_,rfl⟩
 obtain ⟨b3,q3⟩:∃ q,inB clk 0 2147483647 = q:=⟨_,rfl⟩
 obtain ⟨b4,q4⟩:∃ q,inB ver 0 1099511627776 = q:=⟨_,rfl⟩
 obtain ⟨b5,q5⟩:∃ q,(cs.any fun x => decide (x.en ≤ clk)) = q:=⟨_,rfl⟩
 obtain ⟨b6,q6⟩:∃ q,(rs.any fun x => decide (x.en ≤ clk)) = q:=⟨_,rfl⟩
 have hbb:b = (b1 && (b2 && (b3 && (b4 && (!b5 && !b6))))):=by rw [← HB.out]; unfold rightP aheadC aheadR; rw [q1,q2,q3,q4,q5,q6]
 have Q1:=Lib.hid q1
 have Q2:=Lib.hid q2
 have Q3:=Lib.hid q3
 have Q4:=Lib.hid q4
 have Q5:=Lib.hid q5
 have Q6:=Lib.hid q6
 have HBB:=Lib.hid hbb
 clear q1 q2 q3 q4 q5 q6 hbb HB
 go_enter Tryz.func13,Tryz.ntmps13
 go_upto_region 1 with fail
 generalize w.alloc (.cells #[.slice A1 n1 c1,.slice A n c,.int .i64 clk,.int .i64 ver] 25) = w0 at *
 have r0:w0.cell? ⟨w.heap.size,0,none⟩ = some (.slice A1 n1 c1):=hP.cell 0
 have lt_p:=hP.lt
 go_wp2_with fail
 clear r0 lt_p
 refine (Kc.rright6_any A1 n1 c1 cs w0 HD1.out hn1 h1 b1 Q1.out).mono ?_
 rintro e w1 ⟨rfl,hb⟩
 replace h1:=h1.up hb
 replace h:=h.up hb
 replace hP:=hP.below hb hP.lt
 replace hB:=hB.trans (hb.mono hs)
 replace hs:=hB.size
 clear hb
 have r1:w1.cell? ⟨w.heap.size,1,none⟩ = some (.slice A n c):=hP.cell 1
 have lt_p:=hP.lt
 go_wp2_with fail
 clear r1 lt_p
 refine (Kr.rright7_any A n c rs w1 HD.out hn h b2 Q2.out).mono ?_
 rintro e w2 ⟨rfl,hb⟩
 replace h1:=h1.up hb
 replace h:=h.up hb
 replace hP:=hP.below hb hP.lt
 replace hB:=hB.trans (hb.mono hs)
 replace hs:=hB.size
 clear hb
 have r0:w2.cell? ⟨w.heap.size,0,none⟩ = some (.slice A1 n1 c1):=hP.cell 0
 have r1:w2.cell? ⟨w.heap.size,1,none⟩ = some (.slice A n c):=hP.cell 1
 have r2:w2.cell? ⟨w.heap.size,2,none⟩ = some (.int .i64 clk):=hP.cell 2
 have r3:w2.cell? ⟨w.heap.size,3,none⟩ = some (.int .i64 ver):=hP.cell 3
 have lt_p:=hP.lt
 cases b1
 ·go_wp2_with fail
  go_ret
  exact ⟨by rw [HBB.out]; rfl,hB⟩
 cases b2
 ·go_wp2_with fail
  go_ret
  exact ⟨by rw [HBB.out]; rfl,hB⟩
 have hq3:=Q3.out
 have hq4:=Q4.out
 unfold inB at hq3 hq4
 by_cases k1:clk < 0
 ·have d1:decide (clk < 0) = true:=decide_eq_true k1
  have HF:Hid (b = false):=by show b = false; rw [HBB.out,← hq3,decide_eq_false (by omega)]; rfl
  clear hq3 hq4 k1
  go_wp2_with fail
  go_ret
  exact ⟨by rw [HF.out]; rfl,hB⟩
 have d1:decide (clk < 0) = false:=decide_eq_false k1
 by_cases k2:clk > 2147483647
 ·have d2:decide (clk > 2147483647) = true:=decide_eq_true k2
  have HF:Hid (b = false):=by show b = false; rw [HBB.out,← hq3,decide_eq_false (by omega)]; rfl
  clear hq3 hq4 k1 k2
  go_wp2_with fail
  go_ret
  exact ⟨by rw [HF.out]; rfl,hB⟩
 have d2:decide (clk > 2147483647) = false:=decide_eq_false k2
 by_cases k3:ver < 0
 ·have d3:decide (ver < 0) = true:=decide_eq_true k3
  have HF:Hid (b = false):=by show b = false; rw [HBB.out,← hq4,decide_eq_false (by omega:¬ (0 ≤ ver ∧ ver ≤ 1099511627776))]; cases b3 <;> rfl
  clear hq3 hq4 k1 k2 k3
  go_wp2_with fail
  go_ret
  exact ⟨by rw [HF.out]; rfl,hB⟩
 have d3:decide (ver < 0) = false:=decide_eq_false k3
 by_cases k4:ver > 1099511627776
 ·have d4:decide (ver > 1099511627776) = true:=decide_eq_true k4
  have HF:Hid (b = false):=by show b = false; rw [HBB.out,← hq4,decide_eq_false (by omega:¬ (0 ≤ ver ∧ ver ≤ 1099511627776))]; cases b3 <;> rfl
  clear hq3 hq4 k1 k2 k3 k4
  go_wp2_with fail
  go_ret
  exact ⟨by rw [HF.out]; rfl,hB⟩
 have d4:decide (ver > 1099511627776) = false:=decide_eq_false k4
 have HBC:Hid (b = (!b5 && !b6)):=by
  show b = (!b5 && !b6)
  rw [HBB.out,← hq3,← hq4,decide_eq_true (by omega:0 ≤ clk ∧ clk ≤ 2147483647),decide_eq_true (by omega:0 ≤ ver ∧ ver ≤ 1099511627776)]
  rfl
 clear hq3 hq4 k1 k2 k3 k4
 go_upto_region 5 with fail
 have H1:=Lib.hid h1
 have H2:=Lib.hid h
 have HP:=Lib.hid hP
 clear h1 h hP r0 r1 r2 r3 lt_p
 go_wp2_with fail
 go_loopw [5] (fun iv wr => ∃ i:Nat,iv = .int .i64 i ∧ i ≤ n1 ∧ Hid (∀ j,j < i → clk < (gCo cs j).en) ∧ Below w2.heap.size w2 wr) (fun iv _ => n1 - (intOf iv).toNat)
 case atStart => exact ⟨0,rfl,by omega,(fun j hj => by omega),Below.refl _ _⟩
 case round =>
  obtain ⟨i,rfl,hi,HQ,hC⟩:=hrel
  by_cases hin:i < n1
  ·obtain ⟨ad,rfl,hab,c0,c1_,c2,c3,c4,c5⟩:=(H1.out.below hC).lst.atCo HD1.out hin
   obtain ⟨x,hx⟩:∃ x,gCo cs i = x:=⟨_,rfl⟩
   rw [hx] at c0 c1_ c2 c3 c4 c5
   have HX:=Lib.hid hx
   have hw2:IntKind.i64.wrap ((i:Int) + 1) = (i:Int) + 1:=IntWalk.i64_in _ (by omega)
   have hg:=HP.out.below hC HP.out.lt
   have y0:wr.cell? ⟨w.heap.size,0,none⟩ = some (.slice (some ad) n1 c1):=hg.cell 0
   have y2:wr.cell? ⟨w.heap.size,2,none⟩ = some (.int .i64 clk):=hg.cell 2
   have lt_p:=hg.lt
   clear hx hab hg
   by_cases he:x.en ≤ clk
   ·have e1:decide (x.en ≤ clk) = true:=decide_eq_true he
    have HF:Hid (b = false):=by show b = false; rw [HBC.out,← Q5.out,any_atC (i:=i) (by rw [HD1.out]; exact hin) (by rw [HX.out]; exact he)]; rfl
    clear he
    go_wp2_with fail
    have q_c0:=fun d os => cell_regrown c0 d os
    have q_c1_:=fun d os => cell_regrown c1_ d os
    have q_c2:=fun d os => cell_regrown c2 d os
    have q_c3:=fun d os => cell_regrown c3 d os
    have q_c4:=fun d os => cell_regrown c4 d os
    have q_c5:=fun d os => cell_regrown c5 d os
    have q_y0:=fun d os => cell_regrown y0 d os
    have q_y2:=fun d os => cell_regrown y2 d os
    try simp only [List.append]
    first | refine wp_region_text_below ?_ | refine wp_region_quiet_below (by kernel_rfl) (by kernel_rfl) ?_
    repeat (go_big_quiet_step ((fail)))
    refine wpQuiet_nil ?_
    intro _ hqw
    obtain ⟨pq,hqw⟩:=hqw
    subst hqw
    clear q_c0 q_c1_ q_c2 q_c3 q_c4 q_c5 q_y0 q_y2
    have hC2:=hC.trans ((below_regrown wr pq.d pq.os).mono hC.size)
    clear c0 c1_ c2 c3 c4 c5 y0 y2 lt_p hC
    generalize grow (redrawn wr pq.d) pq.os = wq at *
    go_wp2_with fail
    go_ret
    exact ⟨by rw [HF.out]; rfl,hB.trans (hC2.mono hs)⟩
   ·have e1:decide (x.en ≤ clk) = false:=decide_eq_false he
    have HQ2:Hid (∀ j,j < i + 1 → clk < (gCo cs j).en):=fun j hj => by
     by_cases e:j = i
     ·subst e; rw [HX.out]; omega
     ·exact HQ.out j (by omega)
    clear he
    go_wp2_with fail
    have q_c0:=fun d os => cell_regrown c0 d os
    have q_c1_:=fun d os => cell_regrown c1_ d os
    have q_c2:=fun d os => cell_regrown c2 d os
    have q_c3:=fun d os => cell_regrown c3 d os
    have q_c4:=fun d os => cell_regrown c4 d os
    have q_c5:=fun d os => cell_regrown c5 d os
    have q_y0:=fun d os => cell_regrown y0 d os
    have q_y2:=fun d os => cell_regrown y2 d os
    try simp only [List.append]
    first | refine wp_region_text_below ?_ | refine wp_region_quiet_below (by kernel_rfl) (by kernel_rfl) ?_
    repeat (go_big_quiet_step ((fail)))
    refine wpQuiet_nil ?_
    intro _ hqw
    obtain ⟨pq,hqw⟩:=hqw
    subst hqw
    clear q_c0 q_c1_ q_c2 q_c3 q_c4 q_c5 q_y0 q_y2
    have hC2:=hC.trans ((below_regrown wr pq.d pq.os).mono hC.size)
    clear c0 c1_ c2 c3 c4 c5 y0 y2 lt_p hC
    generalize grow (redrawn wr pq.d) pq.os = wq at *
    go_wp2_with fail
    go_roundw
    case rel => exact ⟨i + 1,by go_num,by omega,HQ2,hC2⟩
    case measure => simp [intOf]; omega
  ·obtain rfl:i = n1:=by omega
   have HBD:Hid (b = !b6):=by show b = !b6; rw [HBC.out,← Q5.out,any_noC (fun j hj => HQ.out j (by rw [← HD1.out]; exact hj))]; rfl
   have hg:=HP.out.below hC HP.out.lt
   have y0:wr.cell? ⟨w.heap.size,0,none⟩ = some (.slice A1 i c1):=hg.cell 0
   have lt_p:=hg.lt
   clear hin hi hg
   go_wp2_with fail
   clear y0 lt_p
   go_loopw [6] (fun iv wr => ∃ k:Nat,iv = .int .i64 k ∧ k ≤ n ∧ Hid (∀ j,j < k → clk < (gRg rs j).en) ∧ Below w2.heap.size w2 wr) (fun iv _ => n - (intOf iv).toNat)
   case atStart => exact ⟨0,rfl,by omega,(fun j hj => by omega),hC⟩
   case round =>
    clear hC
    obtain ⟨k,rfl,hk,HK,hC⟩:=hrel
    by_cases hkn:k < n
    ·obtain ⟨ad,rfl,hab,c0,c1_,c2,c3,c4⟩:=(H2.out.below hC).lst.atRg HD.out hkn
     obtain ⟨x,hx⟩:∃ x,gRg rs k = x:=⟨_,rfl⟩
     rw [hx] at c0 c1_ c2 c3 c4
     have HX:=Lib.hid hx
     have hw2:IntKind.i64.wrap ((k:Int) + 1) = (k:Int) + 1:=IntWalk.i64_in _ (by omega)
     have hg:=HP.out.below hC HP.out.lt
     have y1:wr.cell? ⟨w.heap.size,1,none⟩ = some (.slice (some ad) n c):=hg.cell 1
     have y2:wr.cell? ⟨w.heap.size,2,none⟩ = some (.int .i64 clk):=hg.cell 2
     have lt_p:=hg.lt
     clear hx hab hg
     by_cases he:x.en ≤ clk
     ·have e1:decide (x.en ≤ clk) = true:=decide_eq_true he
      have HF:Hid (b = false):=by show b = false; rw [HBD.out,← Q6.out,any_atR (i:=k) (by rw [HD.out]; exact hkn) (by rw [HX.out]; exact he)]; rfl
      clear he
      go_wp2_with fail
      have q_c0:=fun d os => cell_regrown c0 d os
      have q_c1_:=fun d os => cell_regrown c1_ d os
      have q_c2:=fun d os => cell_regrown c2 d os
      have q_c3:=fun d os => cell_regrown c3 d os
      have q_c4:=fun d os => cell_regrown c4 d os
      have q_y1:=fun d os => cell_regrown y1 d os
      have q_y2:=fun d os => cell_regrown y2 d os
      try simp only [List.append]
      first | refine wp_region_text_below ?_ | refine wp_region_quiet_below (by kernel_rfl) (by kernel_rfl) ?_
      repeat (go_big_quiet_step ((fail)))
      refine wpQuiet_nil ?_
      intro _ hqw
      obtain ⟨pq,hqw⟩:=hqw
      subst hqw
      clear q_c0 q_c1_ q_c2 q_c3 q_c4 q_y1 q_y2
      have hC2:=hC.trans ((below_regrown wr pq.d pq.os).mono hC.size)
      clear c0 c1_ c2 c3 c4 y1 y2 lt_p hC
      generalize grow (redrawn wr pq.d) pq.os = wq at *
      go_wp2_with fail
      go_ret
      exact ⟨by rw [HF.out]; rfl,hB.trans (hC2.mono hs)⟩
     ·have e1:decide (x.en ≤ clk) = false:=decide_eq_false he
      have HQ2:Hid (∀ j,j < k + 1 → clk < (gRg rs j).en):=fun j hj => by
       by_cases e:j = k
       ·subst e; rw [HX.out]; omega
       ·exact HK.out j (by omega)
      clear he
      go_wp2_with fail
      have q_c0:=fun d os => cell_regrown c0 d os
      have q_c1_:=fun d os => cell_regrown c1_ d os
      have q_c2:=fun d os => cell_regrown c2 d os
      have q_c3:=fun d os => cell_regrown c3 d os
      have q_c4:=fun d os => cell_regrown c4 d os
      have q_y1:=fun d os => cell_regrown y1 d os
      have q_y2:=fun d os => cell_regrown y2 d os
      try simp only [List.append]
      first | refine wp_region_text_below ?_ | refine wp_region_quiet_below (by kernel_rfl) (by kernel_rfl) ?_
      repeat (go_big_quiet_step ((fail)))
      refine wpQuiet_nil ?_
      intro _ hqw
      obtain ⟨pq,hqw⟩:=hqw
      subst hqw
      clear q_c0 q_c1_ q_c2 q_c3 q_c4 q_y1 q_y2
      have hC2:=hC.trans ((below_regrown wr pq.d pq.os).mono hC.size)
      clear c0 c1_ c2 c3 c4 y1 y2 lt_p hC
      generalize grow (redrawn wr pq.d) pq.os = wq at *
      go_wp2_with fail
      go_roundw
      case rel => exact ⟨k + 1,by go_num,by omega,HQ2,hC2⟩
      case measure => simp [intOf]; omega
    ·obtain rfl:k = n:=by omega
     have hg:=HP.out.below hC HP.out.lt
     have y1:wr.cell? ⟨w.heap.size,1,none⟩ = some (.slice A k c):=hg.cell 1
     have lt_p:=hg.lt
     clear hg
     have HF:Hid (b = true):=by show b = true; rw [HBD.out,← Q6.out,any_noR (fun j hj => HK.out j (by rw [← HD.out]; exact hj))]; rfl
     go_wp2_with fail
     go_ret
     exact ⟨by rw [HF.out]; rfl,hB.trans (hC.mono hs)⟩
end Go.Proofs.YtolaabllhibkdaaGreat
