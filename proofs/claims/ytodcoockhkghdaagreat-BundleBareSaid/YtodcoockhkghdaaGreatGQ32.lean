/- Several texts of mine in one: Ref08, Ref09g, SmP20. No condition. -/
import Derived.Test.YtodcoockhkghdaaGreatGQ30
import Derived.Test.YtodcoockhkghdaaGreatRef06c
import Derived.Test.YtodcoockhkghdaaGreatGQ31

/- The document's own plans: Right. It makes new memory alone. -/
namespace Go.Proofs.YtodcoockhkghdaaGreat
open Go.ChangeShapes Go.WideShapes Go.ChangeAt Go.RowKit Go.Sort
set_option linter.unusedSimpArgs false
set_option linter.unusedVariables false
theorem any_atC {cs:List Co} {clk:Int} {i:Nat} (hi:i < cs.length) (h:(gCo cs i).en ≤ clk):(cs.any fun x => decide (x.en ≤ clk)) = true:=List.any_eq_true.2 ⟨_,gCo_mem hi,decide_eq_true h⟩
theorem any_noC {cs:List Co} {clk:Int} (h:∀ j,j < cs.length → clk < (gCo cs j).en):(cs.any fun x => decide (x.en ≤ clk)) = false:=by
 rw [List.any_eq_false]
 intro x hx
 obtain ⟨j,hj,rfl⟩:=List.getElem_of_mem hx
 have:=h j hj
 rw [gCo_eq hj] at this
 simp; omega
theorem any_atR {cs:List Rg} {clk:Int} {i:Nat} (hi:i < cs.length) (h:(gRg cs i).en ≤ clk):(cs.any fun x => decide (x.en ≤ clk)) = true:=List.any_eq_true.2 ⟨_,gRg_mem hi,decide_eq_true h⟩
theorem any_noR {cs:List Rg} {clk:Int} (h:∀ j,j < cs.length → clk < (gRg cs j).en):(cs.any fun x => decide (x.en ≤ clk)) = false:=by
 rw [List.any_eq_false]
 intro x hx
 obtain ⟨j,hj,rfl⟩:=List.getElem_of_mem hx
 have:=h j hj
 rw [gRg_eq hj] at this
 simp; omega
set_option maxHeartbeats 8000000 in
set_option maxRecDepth 100000 in
theorem rright8_any (A1:Option Addr) (n1 c1:Nat) (cs:List Co) (A:Option Addr) (n c:Nat) (rs:List Rg) (clk ver:Int) (w:World) (hd1:cs.length = n1) (hn1:n1 ≤ 1000000) (hd:rs.length = n) (hn:n ≤ 1000000) (h1:Sl w w.heap.size 6 A1 n1 c1 (flatCo cs)) (h:Sl w w.heap.size 5 A n c (flatRg rs)) (b:Bool) (hb:rightP cs rs clk ver = b) :
  Calls Tryz.prog 31 #[.agg #[.slice A1 n1 c1,.slice A n c,.int .i64 clk,.int .i64 ver]] w fun e w' => e = .returned (.bool b) ∧ Below w.heap.size w w':=by
 have hB:Below w.heap.size w (w.alloc (.cells #[.slice A1 n1 c1,.slice A n c,.int .i64 clk,.int .i64 ver] 25)):=by (repeat (first | exact Below.refl _ _ | refine Below.alloc ?_ (by first | omega | (simp; done) | (simp; omega)) _ | refine Below.setCell ?_ (by first | omega | (simp; done) | (simp; omega)) _ | refine Below.drew ?_))
 have hP:=Blok.new w 25 #[.slice A1 n1 c1,.slice A n c,.int .i64 clk,.int .i64 ver]
 replace h1:=h1.up hB
 replace h:=h.up hB
 have hs:=hB.size
 have HB:=Lib.hid hb
 have HD1:=Lib.hid hd1
 have HD:=Lib.hid hd
 clear hb hd hd1
 obtain ⟨b1,q1⟩:∃ q,Kc.rightC cs = q:=⟨_,rfl⟩
 obtain ⟨b2,q2⟩:∃ q,Kr.rightB rs = q:=⟨_,rfl⟩
 obtain ⟨b3,q3⟩:∃ q,inB clk 0 2147483647 = q:=⟨_,rfl⟩
 obtain ⟨b4,q4⟩:∃ q,inB ver 0 1099511627776 = q:=⟨_,rfl⟩
 obtain ⟨b5,q5⟩:∃ q,(cs.any fun x => decide (x.en ≤ clk)) = q:=⟨_,rfl⟩
 obtain ⟨b6,q6⟩:∃ q,(rs.any fun x => decide (x.en ≤ clk)) = q:=⟨_,rfl⟩
 have hbb:b = (b1 && (b2 && (b3 && (b4 && (!b5 && !b6))))):=by rw [← HB.out]; unfold rightP aheadC aheadR; rw [q1,q2,q3,q4,q5,q6]
 have Q1:=Lib.hid q1
 have Q2:=Lib.hid q2
 have Q3:=Lib.hid q3
 have Q4:=Lib.hid q4
 have Q5:=Lib.hid q5
 have Q6:=Lib.hid q6
 have HBB:=Lib.hid hbb
 clear q1 q2 q3 q4 q5 q6 hbb HB
 go_enter Tryz.func31,Tryz.ntmps31
 go_upto_region 1 with fail
 generalize w.alloc (.cells #[.slice A1 n1 c1,.slice A n c,.int .i64 clk,.int .i64 ver] 25) = w0 at *
 have r0:w0.cell? ⟨w.heap.size,0,none⟩ = some (.slice A1 n1 c1):=hP.cell 0
 have lt_p:=hP.lt
 go_wp2_with fail
 clear r0 lt_p
 refine (Kc.rright6_any A1 n1 c1 cs w0 HD1.out hn1 h1 b1 Q1.out).mono ?_
 rintro e w1 ⟨rfl,hb⟩
 replace h1:=h1.up hb
 replace h:=h.up hb
 replace hP:=hP.below hb hP.lt
 replace hB:=hB.trans (hb.mono hs)
 replace hs:=hB.size
 clear hb
 have r1:w1.cell? ⟨w.heap.size,1,none⟩ = some (.slice A n c):=hP.cell 1
 have lt_p:=hP.lt
 go_wp2_with fail
 clear r1 lt_p
 refine (Kr.rright7_any A n c rs w1 HD.out hn h b2 Q2.out).mono ?_
 rintro e w2 ⟨rfl,hb⟩
 replace h1:=h1.up hb
 replace h:=h.up hb
 replace hP:=hP.below hb hP.lt
 replace hB:=hB.trans (hb.mono hs)
 replace hs:=hB.size
 clear hb
 have r0:w2.cell? ⟨w.heap.size,0,none⟩ = some (.slice A1 n1 c1):=hP.cell 0
 have r1:w2.cell? ⟨w.heap.size,1,none⟩ = some (.slice A n c):=hP.cell 1
 have r2:w2.cell? ⟨w.heap.size,2,none⟩ = some (.int .i64 clk):=hP.cell 2
 have r3:w2.cell? ⟨w.heap.size,3,none⟩ = some (.int .i64 ver):=hP.cell 3
 have lt_p:=hP.lt
 cases b1
 ·go_wp2_with fail
  go_ret
  exact ⟨by rw [HBB.out]; rfl,hB⟩
 cases b2
 ·go_wp2_with fail
  go_ret
  exact ⟨by rw [HBB.out]; rfl,hB⟩
 have hq3:=Q3.out
 have hq4:=Q4.out
 unfold inB at hq3 hq4
 by_cases k1:clk < 0
 ·have d1:decide (clk < 0) = true:=decide_eq_true k1
  have HF:Hid (b = false):=by show b = false; rw [HBB.out,← hq3,decide_eq_false (by omega)]; rfl
  clear hq3 hq4 k1
  go_wp2_with fail
  go_ret
  exact ⟨by rw [HF.out]; rfl,hB⟩
 have d1:decide (clk < 0) = false:=decide_eq_false k1
 by_cases k2:clk > 2147483647
 ·have d2:decide (clk > 2147483647) = true:=decide_eq_true k2
  have HF:Hid (b = false):=by show b = false; rw [HBB.out,← hq3,decide_eq_false (by omega)]; rfl
  clear hq3 hq4 k1 k2
  go_wp2_with fail
  go_ret
  exact ⟨by rw [HF.out]; rfl,hB⟩
 have d2:decide (clk > 2147483647) = false:=decide_eq_false k2
 by_cases k3:ver < 0
 ·have d3:decide (ver < 0) = true:=decide_eq_true k3
  have HF:Hid (b = false):=by show b = false; rw [HBB.out,← hq4,decide_eq_false (by omega:¬ (0 ≤ ver ∧ ver ≤ 1099511627776))]; cases b3 <;> rfl
  clear hq3 hq4 k1 k2 k3
  go_wp2_with fail
  go_ret
  exact ⟨by rw [HF.out]; rfl,hB⟩
 have d3:decide (ver < 0) = false:=decide_eq_false k3
 by_cases k4:ver > 1099511627776
 ·have d4:decide (ver > 1099511627776) = true:=decide_eq_true k4
  have HF:Hid (b = false):=by show b = false; rw [HBB.out,← hq4,decide_eq_false (by omega:¬ (0 ≤ ver ∧ ver ≤ 1099511627776))]; cases b3 <;> rfl
  clear hq3 hq4 k1 k2 k3 k4
  go_wp2_with fail
  go_ret
  exact ⟨by rw [HF.out]; rfl,hB⟩
 have d4:decide (ver > 1099511627776) = false:=decide_eq_false k4
 have HBC:Hid (b = (!b5 && !b6)):=by
  show b = (!b5 && !b6)
  rw [HBB.out,← hq3,← hq4,decide_eq_true (by omega:0 ≤ clk ∧ clk ≤ 2147483647),decide_eq_true (by omega:0 ≤ ver ∧ ver ≤ 1099511627776)]
  rfl
 clear hq3 hq4 k1 k2 k3 k4
 go_upto_region 5 with fail
 have H1:=Lib.hid h1
 have H2:=Lib.hid h
 have HP:=Lib.hid hP
 clear h1 h hP r0 r1 r2 r3 lt_p
 go_wp2_with fail
 go_loopw [5] (fun iv wr => ∃ i:Nat,iv = .int .i64 i ∧ i ≤ n1 ∧ Hid (∀ j,j < i → clk < (gCo cs j).en) ∧ Below w2.heap.size w2 wr) (fun iv _ => n1 - (intOf iv).toNat)
 case atStart => exact ⟨0,rfl,by omega,(fun j hj => by omega),Below.refl _ _⟩
 case round =>
  obtain ⟨i,rfl,hi,HQ,hC⟩:=hrel
  by_cases hin:i < n1
  ·obtain ⟨ad,rfl,hab,c0,c1_,c2,c3,c4,c5⟩:=(H1.out.below hC).lst.atCo HD1.out hin
   obtain ⟨x,hx⟩:∃ x,gCo cs i = x:=⟨_,rfl⟩
   rw [hx] at c0 c1_ c2 c3 c4 c5
   have HX:=Lib.hid hx
   have hw2:IntKind.i64.wrap ((i:Int) + 1) = (i:Int) + 1:=IntWalk.i64_in _ (by omega)
   have hg:=HP.out.below hC HP.out.lt
   have y0:wr.cell? ⟨w.heap.size,0,none⟩ = some (.slice (some ad) n1 c1):=hg.cell 0
   have y2:wr.cell? ⟨w.heap.size,2,none⟩ = some (.int .i64 clk):=hg.cell 2
   have lt_p:=hg.lt
   clear hx hab hg
   by_cases he:x.en ≤ clk
   ·have e1:decide (x.en ≤ clk) = true:=decide_eq_true he
    have HF:Hid (b = false):=by show b = false; rw [HBC.out,← Q5.out,any_atC (i:=i) (by rw [HD1.out]; exact hin) (by rw [HX.out]; exact he)]; rfl
    clear he
    go_wp2_with fail
    have q_c0:=fun d os => cell_regrown c0 d os
    have q_c1_:=fun d os => cell_regrown c1_ d os
    have q_c2:=fun d os => cell_regrown c2 d os
    have q_c3:=fun d os => cell_regrown c3 d os
    have q_c4:=fun d os => cell_regrown c4 d os
    have q_c5:=fun d os => cell_regrown c5 d os
    have q_y0:=fun d os => cell_regrown y0 d os
    have q_y2:=fun d os => cell_regrown y2 d os
    try simp only [List.append]
    first | refine wp_region_text_below ?_ | refine wp_region_quiet_below (by kernel_rfl) (by kernel_rfl) ?_
    repeat (go_big_quiet_step ((fail)))
    refine wpQuiet_nil ?_
    intro _ hqw
    obtain ⟨pq,hqw⟩:=hqw
    subst hqw
    clear q_c0 q_c1_ q_c2 q_c3 q_c4 q_c5 q_y0 q_y2
    have hC2:=hC.trans ((below_regrown wr pq.d pq.os).mono hC.size)
    clear c0 c1_ c2 c3 c4 c5 y0 y2 lt_p hC
    generalize grow (redrawn wr pq.d) pq.os = wq at *
    go_wp2_with fail
    go_ret
    exact ⟨by rw [HF.out]; rfl,hB.trans (hC2.mono hs)⟩
   ·have e1:decide (x.en ≤ clk) = false:=decide_eq_false he
    have HQ2:Hid (∀ j,j < i + 1 → clk < (gCo cs j).en):=fun j hj => by
     by_cases e:j = i
     ·subst e; rw [HX.out]; omega
     ·exact HQ.out j (by omega)
    clear he
    go_wp2_with fail
    have q_c0:=fun d os => cell_regrown c0 d os
    have q_c1_:=fun d os => cell_regrown c1_ d os
    have q_c2:=fun d os => cell_regrown c2 d os
    have q_c3:=fun d os => cell_regrown c3 d os
    have q_c4:=fun d os => cell_regrown c4 d os
    have q_c5:=fun d os => cell_regrown c5 d os
    have q_y0:=fun d os => cell_regrown y0 d os
    have q_y2:=fun d os => cell_regrown y2 d os
    try simp only [List.append]
    first | refine wp_region_text_below ?_ | refine wp_region_quiet_below (by kernel_rfl) (by kernel_rfl) ?_
    repeat (go_big_quiet_step ((fail)))
    refine wpQuiet_nil ?_
    intro _ hqw
    obtain ⟨pq,hqw⟩:=hqw
    subst hqw
    clear q_c0 q_c1_ q_c2 q_c3 q_c4 q_c5 q_y0 q_y2
    have hC2:=hC.trans ((below_regrown wr pq.d pq.os).mono hC.size)
    clear c0 c1_ c2 c3 c4 c5 y0 y2 lt_p hC
    generalize grow (redrawn wr pq.d) pq.os = wq at *
    go_wp2_with fail
    go_roundw
    case rel => exact ⟨i + 1,by go_num,by omega,HQ2,hC2⟩
    case measure => simp [intOf]; omega
  ·obtain rfl:i = n1:=by omega
   have HBD:Hid (b = !b6):=by show b = !b6; rw [HBC.out,← Q5.out,any_noC (fun j hj => HQ.out j (by rw [← HD1.out]; exact hj))]; rfl
   have hg:=HP.out.below hC HP.out.lt
   have y0:wr.cell? ⟨w.heap.size,0,none⟩ = some (.slice A1 i c1):=hg.cell 0
   have lt_p:=hg.lt
   clear hin hi hg
   go_wp2_with fail
   clear y0 lt_p
   go_loopw [6] (fun iv wr => ∃ k:Nat,iv = .int .i64 k ∧ k ≤ n ∧ Hid (∀ j,j < k → clk < (gRg rs j).en) ∧ Below w2.heap.size w2 wr) (fun iv _ => n - (intOf iv).toNat)
   case atStart => exact ⟨0,rfl,by omega,(fun j hj => by omega),hC⟩
   case round =>
    clear hC
    obtain ⟨k,rfl,hk,HK,hC⟩:=hrel
    by_cases hkn:k < n
    ·obtain ⟨ad,rfl,hab,c0,c1_,c2,c3,c4⟩:=(H2.out.below hC).lst.atRg HD.out hkn
     obtain ⟨x,hx⟩:∃ x,gRg rs k = x:=⟨_,rfl⟩
     rw [hx] at c0 c1_ c2 c3 c4
     have HX:=Lib.hid hx
     have hw2:IntKind.i64.wrap ((k:Int) + 1) = (k:Int) + 1:=IntWalk.i64_in _ (by omega)
     have hg:=HP.out.below hC HP.out.lt
     have y1:wr.cell? ⟨w.heap.size,1,none⟩ = some (.slice (some ad) n c):=hg.cell 1
     have y2:wr.cell? ⟨w.heap.size,2,none⟩ = some (.int .i64 clk):=hg.cell 2
     have lt_p:=hg.lt
     clear hx hab hg
     by_cases he:x.en ≤ clk
     ·have e1:decide (x.en ≤ clk) = true:=decide_eq_true he
      have HF:Hid (b = false):=by show b = false; rw [HBD.out,← Q6.out,any_atR (i:=k) (by rw [HD.out]; exact hkn) (by rw [HX.out]; exact he)]; rfl
      clear he
      go_wp2_with fail
      have q_c0:=fun d os => cell_regrown c0 d os
      have q_c1_:=fun d os => cell_regrown c1_ d os
      have q_c2:=fun d os => cell_regrown c2 d os
      have q_c3:=fun d os => cell_regrown c3 d os
      have q_c4:=fun d os => cell_regrown c4 d os
      have q_y1:=fun d os => cell_regrown y1 d os
      have q_y2:=fun d os => cell_regrown y2 d os
      try simp only [List.append]
      first | refine wp_region_text_below ?_ | refine wp_region_quiet_below (by kernel_rfl) (by kernel_rfl) ?_
      repeat (go_big_quiet_step ((fail)))
      refine wpQuiet_nil ?_
      intro _ hqw
      obtain ⟨pq,hqw⟩:=hqw
      subst hqw
      clear q_c0 q_c1_ q_c2 q_c3 q_c4 q_y1 q_y2
      have hC2:=hC.trans ((below_regrown wr pq.d pq.os).mono hC.size)
      clear c0 c1_ c2 c3 c4 y1 y2 lt_p hC
      generalize grow (redrawn wr pq.d) pq.os = wq at *
      go_wp2_with fail
      go_ret
      exact ⟨by rw [HF.out]; rfl,hB.trans (hC2.mono hs)⟩
     ·have e1:decide (x.en ≤ clk) = false:=decide_eq_false he
      have HQ2:Hid (∀ j,j < k + 1 → clk < (gRg rs j).en):=fun j hj => by
       by_cases e:j = k
       ·subst e; rw [HX.out]; omega
       ·exact HK.out j (by omega)
      clear he
      go_wp2_with fail
      have q_c0:=fun d os => cell_regrown c0 d os
      have q_c1_:=fun d os => cell_regrown c1_ d os
      have q_c2:=fun d os => cell_regrown c2 d os
      have q_c3:=fun d os => cell_regrown c3 d os
      have q_c4:=fun d os => cell_regrown c4 d os
      have q_y1:=fun d os => cell_regrown y1 d os
      have q_y2:=fun d os => cell_regrown y2 d os
      try simp only [List.append]
      first | refine wp_region_text_below ?_ | refine wp_region_quiet_below (by kernel_rfl) (by kernel_rfl) ?_
      repeat (go_big_quiet_step ((fail)))
      refine wpQuiet_nil ?_
      intro _ hqw
      obtain ⟨pq,hqw⟩:=hqw
      subst hqw
      clear q_c0 q_c1_ q_c2 q_c3 q_c4 q_y1 q_y2
      have hC2:=hC.trans ((below_regrown wr pq.d pq.os).mono hC.size)
      clear c0 c1_ c2 c3 c4 y1 y2 lt_p hC
      generalize grow (redrawn wr pq.d) pq.os = wq at *
      go_wp2_with fail
      go_roundw
      case rel => exact ⟨k + 1,by go_num,by omega,HQ2,hC2⟩
      case measure => simp [intOf]; omega
    ·obtain rfl:k = n:=by omega
     have hg:=HP.out.below hC HP.out.lt
     have y1:wr.cell? ⟨w.heap.size,1,none⟩ = some (.slice A k c):=hg.cell 1
     have lt_p:=hg.lt
     clear hg
     have HF:Hid (b = true):=by show b = true; rw [HBD.out,← Q6.out,any_noR (fun j hj => HK.out j (by rw [← HD.out]; exact hj))]; rfl
     go_wp2_with fail
     go_ret
     exact ⟨by rw [HF.out]; rfl,hB.trans (hC.mono hs)⟩
end Go.Proofs.YtodcoockhkghdaaGreat

/- The document's own ledger: Right. -/
namespace Go.Proofs.YtodcoockhkghdaaGreat.Kb
open Go.ChangeShapes Go.WideShapes Go.ChangeAt Go.RowKit Go.Sort
set_option linter.unusedSimpArgs false
set_option linter.unusedVariables false
def okTo (r:Bk):Nat → Bool
 | 0 => true
 | k + 1 => okTo r k && inM (getU r (k:Int))
def someTo (r:Bk):Nat → Bool
 | 0 => false
 | k + 1 => someTo r k || decide (0 < getU r (k:Int))
theorem okTo3 (r:Bk):okTo r 3 = (inM r.ua && (inM r.ub && inM r.uc)):=by simp [okTo,getU,Bool.and_assoc]
theorem someTo3 {r:Bk} (h:okTo r 3 = true):someTo r 3 = !zeroU r:=by
 rw [okTo3] at h
 simp only [Bool.and_eq_true] at h
 obtain ⟨h1,h2,h3⟩:=h
 unfold inM inB at h1 h2 h3
 simp only [Bool.and_eq_true,decide_eq_true_eq] at h1 h2 h3
 unfold zeroU
 rw [Bool.eq_iff_iff]
 simp [someTo,getU]
 omega
theorem okTo_bad {r:Bk} {k:Nat} (hk:k < 3) (h:inM (getU r (k:Int)) = false):okTo r 3 = false:=by
 rw [okTo3]
 rcases (by omega:k = 0 ∨ k = 1 ∨ k = 2) with rfl | rfl | rfl <;> simp [getU] at h <;> simp [h]
set_option maxHeartbeats 8000000 in
set_option maxRecDepth 100000 in
theorem rright_any (A:Option Addr) (n c:Nat) (d:List Bk) (w:World) (hd:d.length = n) (hn:n ≤ 100000) (h:Sl w w.heap.size 4 A n c (flatBk d)) :
  Calls Tryz.prog 32 #[.slice A n c] w fun e w' => e = .returned (.bool (rightB d)) ∧ Below w.heap.size w w':=by
 have HD:=Lib.hid hd
 have HL:=Lib.hid h
 clear hd h
 go_enter Tryz.func32,Tryz.ntmps32
 go_wp2
 go_loopw [3] (fun iv wr => ∃ (i:Nat),iv = .int .i64 i ∧ i ≤ n ∧ Hid (∀ j,j < i → stepR d j = true) ∧ Below w.heap.size w wr) (fun iv _ => n - (intOf iv).toNat)
 case atStart => exact ⟨0,rfl,by omega,fun j hj => by omega,Below.refl _ _⟩
 case round =>
  obtain ⟨i,rfl,hi,HS,hB⟩:=hrel
  have hs:=hB.size
  by_cases hin:i < n
  ·obtain ⟨ad,rfl,hab,c0,c1,c2,c3⟩:=(HL.out.below hB).lst.atBk HD.out hin
   obtain ⟨r,hr⟩:∃ r,gBk d i = r:=⟨_,rfl⟩
   rw [hr] at c0 c1 c2 c3
   have hstep:stepR d i = (inB r.id 1 1048576 && ((i == 0 || decide ((gBk d (i - 1)).id < r.id)) && (!zeroU r && (inM r.ua && (inM r.ub && inM r.uc))))):=by unfold stepR; rw [hr]
   have HST:=Lib.hid hstep
   have HBAD:=Lib.hid (fun hq:stepR d i = false => rightB_false (by rw [HD.out]; exact hin) hq)
   have hbA:Below wr.heap.size wr (wr.alloc (.cells #[.int .i64 r.id,.int .i64 r.ua,.int .i64 r.ub,.int .i64 r.uc] 65)):=by (repeat (first | exact Below.refl _ _ | refine Below.alloc ?_ (by first | omega | (simp; done) | (simp; omega)) _ | refine Below.setCell ?_ (by first | omega | (simp; done) | (simp; omega)) _ | refine Below.drew ?_))
   have hX:=Blok.new wr 65 #[.int .i64 r.id,.int .i64 r.ua,.int .i64 r.ub,.int .i64 r.uc]
   clear hstep hr
   go_upto_region 5 with fail
   have hB3:=hB.trans (hbA.mono hs)
   generalize wr.alloc (.cells #[.int .i64 r.id,.int .i64 r.ua,.int .i64 r.ub,.int .i64 r.uc] 65) = w3 at *
   generalize wr.heap.size = bx at *
   have hs3:=hB3.size
   have q0:w3.cell? ⟨bx,0,none⟩ = some (.int .i64 r.id):=hX.cell 0
   have lt_x:=hX.lt
   clear c0 c1 c2 c3 hB hs hbA
   obtain ⟨p,hp⟩:∃ p,gBk d (i - 1) = p:=⟨_,rfl⟩
   have HP:=Lib.hid hp
   have hprev:Hid (0 < i → w3.cell? (ad.add ((i - 1) * 4)) = some (.int .i64 p.id)):=fun h0 => by
    obtain ⟨ae,he,_,e0,_⟩:=(HL.out.below hB3).lst.atBk HD.out (k:=i - 1) (by omega)
    injection he with he
    subst he
    rw [HP.out] at e0
    exact e0
   clear hp
   go_cut [39] (fun s wx => ∃ b:Bool,s = .bool b ∧ Hid (b = true → stepR d i = false) ∧ Hid (b = false → inB r.id 1 1048576 = true ∧ (i == 0 || decide (p.id < r.id)) = true) ∧ Below w3.heap.size w3 wx)
   case first =>
    by_cases g1:r.id < 1
    ·skip
     have d1:decide (r.id < 1) = true:=decide_eq_true g1
     have q_q0:=fun d os => cell_regrown q0 d os
     try simp only [List.append]
     first | refine wp_region_text_below ?_ | refine wp_region_quiet_below (by kernel_rfl) (by kernel_rfl) ?_
     repeat (go_big_quiet_step ((fail)))
     refine wpQuiet_nil ?_
     intro _ hqw
     obtain ⟨pq,hqw⟩:=hqw
     subst hqw
     clear q_q0
     have hbq:=below_regrown w3 pq.d pq.os
     clear q0
     generalize grow (redrawn w3 pq.d) pq.os = wq at *
     go_wp2_with fail
     go_meet
     exact ⟨true,rfl,(fun _ => by rw [HST.out]; have e:inB r.id 1 1048576 = false:=by {unfold inB; simp; omega}; rw [e]; rfl),(fun h => by cases h),hbq⟩
    ·by_cases g2:1048576 < r.id
     ·skip
      have d1:decide (r.id < 1) = false:=decide_eq_false g1
      have d2:decide (r.id > 1048576) = true:=decide_eq_true g2
      have q_q0:=fun d os => cell_regrown q0 d os
      try simp only [List.append]
      first | refine wp_region_text_below ?_ | refine wp_region_quiet_below (by kernel_rfl) (by kernel_rfl) ?_
      repeat (go_big_quiet_step ((fail)))
      refine wpQuiet_nil ?_
      intro _ hqw
      obtain ⟨pq,hqw⟩:=hqw
      subst hqw
      clear q_q0
      have hbq:=below_regrown w3 pq.d pq.os
      clear q0
      generalize grow (redrawn w3 pq.d) pq.os = wq at *
      go_wp2_with fail
      go_meet
      exact ⟨true,rfl,(fun _ => by rw [HST.out]; have e:inB r.id 1 1048576 = false:=by {unfold inB; simp; omega}; rw [e]; rfl),(fun h => by cases h),hbq⟩
     ·by_cases g3:i = 0
      ·subst g3
       skip
       have d1:decide (r.id < 1) = false:=decide_eq_false g1
       have d2:decide (r.id > 1048576) = false:=decide_eq_false g2
       have q_q0:=fun d os => cell_regrown q0 d os
       try simp only [List.append]
       first | refine wp_region_text_below ?_ | refine wp_region_quiet_below (by kernel_rfl) (by kernel_rfl) ?_
       repeat (go_big_quiet_step ((fail)))
       refine wpQuiet_nil ?_
       intro _ hqw
       obtain ⟨pq,hqw⟩:=hqw
       subst hqw
       clear q_q0
       have hbq:=below_regrown w3 pq.d pq.os
       clear q0
       generalize grow (redrawn w3 pq.d) pq.os = wq at *
       go_wp2_with fail
       go_meet
       exact ⟨false,rfl,(fun h => by cases h),(fun _ => ⟨by {unfold inB; simp; omega},rfl⟩),hbq⟩
      ·have p0:=hprev.out (by omega)
       have hi0:0 < i:=by omega
       have hwr:IntKind.i64.wrap ((i:Int) - 1) = (i:Int) - 1:=IntWalk.i64_in _ (by omega)
       have hcast:((i:Int) - 1) = ((i - 1:Nat):Int):=by omega
       have hlt1:i - 1 < n:=by omega
       by_cases g4:r.id ≤ p.id
       ·skip
        have d1:decide (r.id < 1) = false:=decide_eq_false g1
        have d2:decide (r.id > 1048576) = false:=decide_eq_false g2
        have d3:decide ((i:Int) > 0) = true:=by simp; omega
        have d4:decide (r.id ≤ p.id) = true:=decide_eq_true g4
        have q_q0:=fun d os => cell_regrown q0 d os
        have q_p0:=fun d os => cell_regrown p0 d os
        try simp only [List.append]
        first | refine wp_region_text_below ?_ | refine wp_region_quiet_below (by kernel_rfl) (by kernel_rfl) ?_
        repeat (go_big_quiet_step ((fail)))
        refine wpQuiet_nil ?_
        intro _ hqw
        obtain ⟨pq,hqw⟩:=hqw
        subst hqw
        clear q_q0 q_p0
        have hbq:=below_regrown w3 pq.d pq.os
        clear q0 p0
        generalize grow (redrawn w3 pq.d) pq.os = wq at *
        go_wp2_with fail
        go_meet
        exact ⟨true,rfl,(fun _ => by rw [HST.out]; have e:(i == 0 || decide ((gBk d (i - 1)).id < r.id)) = false:=by {rw [HP.out]; simp; omega}; rw [e]; simp),(fun h => by cases h),hbq⟩
       ·skip
        have d1:decide (r.id < 1) = false:=decide_eq_false g1
        have d2:decide (r.id > 1048576) = false:=decide_eq_false g2
        have d3:decide ((i:Int) > 0) = true:=by simp; omega
        have d4:decide (r.id ≤ p.id) = false:=decide_eq_false g4
        have q_q0:=fun d os => cell_regrown q0 d os
        have q_p0:=fun d os => cell_regrown p0 d os
        try simp only [List.append]
        first | refine wp_region_text_below ?_ | refine wp_region_quiet_below (by kernel_rfl) (by kernel_rfl) ?_
        repeat (go_big_quiet_step ((fail)))
        refine wpQuiet_nil ?_
        intro _ hqw
        obtain ⟨pq,hqw⟩:=hqw
        subst hqw
        clear q_q0 q_p0
        have hbq:=below_regrown w3 pq.d pq.os
        clear q0 p0
        generalize grow (redrawn w3 pq.d) pq.os = wq at *
        go_wp2_with fail
        go_meet
        exact ⟨false,rfl,(fun h => by cases h),(fun _ => ⟨by {unfold inB; simp; omega},by {simp; omega}⟩),hbq⟩
   case rest =>
    revert wc
    intro w4 hcut
    obtain ⟨b,rfl,HB1,HB2,hb⟩:=hcut
    have hX4:=hX.below hb hX.lt
    have hB4:=hB3.trans (hb.mono hs3)
    have hs4:=hB4.size
    clear q0 lt_x hX hB3 hs3 hb hprev
    cases b
    ·obtain ⟨hid1,hid2⟩:=HB2.out rfl
     have HI1:=Lib.hid hid1
     have HI2:=Lib.hid hid2
     clear hid1 hid2 HB1 HB2
     have q1:w4.cell? ⟨bx,1,none⟩ = some (.int .i64 r.ua):=hX4.cell 1
     have q2:w4.cell? ⟨bx,2,none⟩ = some (.int .i64 r.ub):=hX4.cell 2
     have q3:w4.cell? ⟨bx,3,none⟩ = some (.int .i64 r.uc):=hX4.cell 3
     have lt_x:=hX4.lt
     have HX4:=Lib.hid hX4
     clear hX4
     go_wp2
     go_loopw [5,6] (fun gv kv wx => ∃ (k:Nat) (g:Bool),gv = .bool g ∧ kv = .int .i64 k ∧ k ≤ 3 ∧ Hid (okTo r k = true) ∧ Hid (someTo r k = g) ∧ w4 = wx) (fun _ kv _ => 3 - (intOf kv).toNat)
     case atStart => exact ⟨0,false,rfl,rfl,by omega,rfl,rfl,rfl⟩
     case round =>
      obtain ⟨k,g,rfl,rfl,hk,HK,HG,rfl⟩:=hrel
      by_cases hk3:k < 3
      ·rcases (by omega:k = 0 ∨ k = 1 ∨ k = 2) with rfl | rfl | rfl
       ·try simp only [Int.natCast_zero,Int.natCast_one]
        by_cases h1:r.ua < 0
        ·have d1:decide (r.ua < 0) = true:=decide_eq_true h1
         have hbad:stepR d i = false:=by
          have e:=okTo_bad (r:=r) (k:=0) (by omega) (by unfold inM inB; simp [getU]; omega)
          rw [okTo3] at e
          rw [HST.out,e]; simp
         have HF:=Lib.hid (HBAD.out hbad)
         clear hbad
         go_wp2_with fail
         go_ret
         exact ⟨by rw [HF.out]; rfl,hB4⟩
        ·have d1:decide (r.ua < 0) = false:=decide_eq_false h1
         by_cases h2:4611686018427387904 < r.ua
         ·have d2:decide (r.ua > 4611686018427387904) = true:=decide_eq_true h2
          have hbad:stepR d i = false:=by
           have e:=okTo_bad (r:=r) (k:=0) (by omega) (by unfold inM inB; simp [getU]; omega)
           rw [okTo3] at e
           rw [HST.out,e]; simp
          have HF:=Lib.hid (HBAD.out hbad)
          clear hbad
          go_wp2_with fail
          go_ret
          exact ⟨by rw [HF.out]; rfl,hB4⟩
         ·have d2:decide (r.ua > 4611686018427387904) = false:=decide_eq_false h2
          cases g
          ·by_cases h3:0 < r.ua
           ·have d3:decide (r.ua > 0) = true:=decide_eq_true h3
            have HK2:Hid (okTo r 1 = true):=by
             show (okTo r 0 && inM (getU r ((0:Nat):Int))) = true
             rw [HK.out]; unfold inM inB; simp [getU]; omega
            have HG2:Hid (someTo r 1 = true):=by
             show (someTo r 0 || decide (0 < getU r ((0:Nat):Int))) = true
             rw [HG.out]; simp [getU]; try exact h3
            clear HK HG
            try simp only [Int.natCast_zero,Int.natCast_one]
            go_wp2_with fail
            go_roundw
            case rel => exact ⟨1,true,rfl,by go_num,by omega,HK2,HG2,by first | rfl | trivial⟩
            case measure => simp [intOf]
           ·have d3:decide (r.ua > 0) = false:=decide_eq_false h3
            have HK2:Hid (okTo r 1 = true):=by
             show (okTo r 0 && inM (getU r ((0:Nat):Int))) = true
             rw [HK.out]; unfold inM inB; simp [getU]; omega
            have HG2:Hid (someTo r 1 = false):=by
             show (someTo r 0 || decide (0 < getU r ((0:Nat):Int))) = false
             rw [HG.out]; simp [getU]; try omega
            clear HK HG
            try simp only [Int.natCast_zero,Int.natCast_one]
            go_wp2_with fail
            go_roundw
            case rel => exact ⟨1,false,rfl,by go_num,by omega,HK2,HG2,by first | rfl | trivial⟩
            case measure => simp [intOf]
          ·skip
           have HK2:Hid (okTo r 1 = true):=by
            show (okTo r 0 && inM (getU r ((0:Nat):Int))) = true
            rw [HK.out]; unfold inM inB; simp [getU]; omega
           have HG2:Hid (someTo r 1 = true):=by
            show (someTo r 0 || decide (0 < getU r ((0:Nat):Int))) = true
            rw [HG.out]; simp [getU]
           clear HK HG
           try simp only [Int.natCast_zero,Int.natCast_one]
           go_wp2_with fail
           go_roundw
           case rel => exact ⟨1,true,rfl,by go_num,by omega,HK2,HG2,by first | rfl | trivial⟩
           case measure => simp [intOf]
       ·try simp only [Int.natCast_zero,Int.natCast_one]
        by_cases h1:r.ub < 0
        ·have d1:decide (r.ub < 0) = true:=decide_eq_true h1
         have hbad:stepR d i = false:=by
          have e:=okTo_bad (r:=r) (k:=1) (by omega) (by unfold inM inB; simp [getU]; omega)
          rw [okTo3] at e
          rw [HST.out,e]; simp
         have HF:=Lib.hid (HBAD.out hbad)
         clear hbad
         go_wp2_with fail
         go_ret
         exact ⟨by rw [HF.out]; rfl,hB4⟩
        ·have d1:decide (r.ub < 0) = false:=decide_eq_false h1
         by_cases h2:4611686018427387904 < r.ub
         ·have d2:decide (r.ub > 4611686018427387904) = true:=decide_eq_true h2
          have hbad:stepR d i = false:=by
           have e:=okTo_bad (r:=r) (k:=1) (by omega) (by unfold inM inB; simp [getU]; omega)
           rw [okTo3] at e
           rw [HST.out,e]; simp
          have HF:=Lib.hid (HBAD.out hbad)
          clear hbad
          go_wp2_with fail
          go_ret
          exact ⟨by rw [HF.out]; rfl,hB4⟩
         ·have d2:decide (r.ub > 4611686018427387904) = false:=decide_eq_false h2
          cases g
          ·by_cases h3:0 < r.ub
           ·have d3:decide (r.ub > 0) = true:=decide_eq_true h3
            have HK2:Hid (okTo r 2 = true):=by
             show (okTo r 1 && inM (getU r ((1:Nat):Int))) = true
             rw [HK.out]; unfold inM inB; simp [getU]; omega
            have HG2:Hid (someTo r 2 = true):=by
             show (someTo r 1 || decide (0 < getU r ((1:Nat):Int))) = true
             rw [HG.out]; simp [getU]; try exact h3
            clear HK HG
            try simp only [Int.natCast_zero,Int.natCast_one]
            go_wp2_with fail
            go_roundw
            case rel => exact ⟨2,true,rfl,by go_num,by omega,HK2,HG2,by first | rfl | trivial⟩
            case measure => simp [intOf]
           ·have d3:decide (r.ub > 0) = false:=decide_eq_false h3
            have HK2:Hid (okTo r 2 = true):=by
             show (okTo r 1 && inM (getU r ((1:Nat):Int))) = true
             rw [HK.out]; unfold inM inB; simp [getU]; omega
            have HG2:Hid (someTo r 2 = false):=by
             show (someTo r 1 || decide (0 < getU r ((1:Nat):Int))) = false
             rw [HG.out]; simp [getU]; try omega
            clear HK HG
            try simp only [Int.natCast_zero,Int.natCast_one]
            go_wp2_with fail
            go_roundw
            case rel => exact ⟨2,false,rfl,by go_num,by omega,HK2,HG2,by first | rfl | trivial⟩
            case measure => simp [intOf]
          ·skip
           have HK2:Hid (okTo r 2 = true):=by
            show (okTo r 1 && inM (getU r ((1:Nat):Int))) = true
            rw [HK.out]; unfold inM inB; simp [getU]; omega
           have HG2:Hid (someTo r 2 = true):=by
            show (someTo r 1 || decide (0 < getU r ((1:Nat):Int))) = true
            rw [HG.out]; simp [getU]
           clear HK HG
           try simp only [Int.natCast_zero,Int.natCast_one]
           go_wp2_with fail
           go_roundw
           case rel => exact ⟨2,true,rfl,by go_num,by omega,HK2,HG2,by first | rfl | trivial⟩
           case measure => simp [intOf]
       ·try simp only [Int.natCast_zero,Int.natCast_one]
        by_cases h1:r.uc < 0
        ·have d1:decide (r.uc < 0) = true:=decide_eq_true h1
         have hbad:stepR d i = false:=by
          have e:=okTo_bad (r:=r) (k:=2) (by omega) (by unfold inM inB; simp [getU]; omega)
          rw [okTo3] at e
          rw [HST.out,e]; simp
         have HF:=Lib.hid (HBAD.out hbad)
         clear hbad
         go_wp2_with fail
         go_ret
         exact ⟨by rw [HF.out]; rfl,hB4⟩
        ·have d1:decide (r.uc < 0) = false:=decide_eq_false h1
         by_cases h2:4611686018427387904 < r.uc
         ·have d2:decide (r.uc > 4611686018427387904) = true:=decide_eq_true h2
          have hbad:stepR d i = false:=by
           have e:=okTo_bad (r:=r) (k:=2) (by omega) (by unfold inM inB; simp [getU]; omega)
           rw [okTo3] at e
           rw [HST.out,e]; simp
          have HF:=Lib.hid (HBAD.out hbad)
          clear hbad
          go_wp2_with fail
          go_ret
          exact ⟨by rw [HF.out]; rfl,hB4⟩
         ·have d2:decide (r.uc > 4611686018427387904) = false:=decide_eq_false h2
          cases g
          ·by_cases h3:0 < r.uc
           ·have d3:decide (r.uc > 0) = true:=decide_eq_true h3
            have HK2:Hid (okTo r 3 = true):=by
             show (okTo r 2 && inM (getU r ((2:Nat):Int))) = true
             rw [HK.out]; unfold inM inB; simp [getU]; omega
            have HG2:Hid (someTo r 3 = true):=by
             show (someTo r 2 || decide (0 < getU r ((2:Nat):Int))) = true
             rw [HG.out]; simp [getU]; try exact h3
            clear HK HG
            try simp only [Int.natCast_zero,Int.natCast_one]
            go_wp2_with fail
            go_roundw
            case rel => exact ⟨3,true,rfl,by go_num,by omega,HK2,HG2,by first | rfl | trivial⟩
            case measure => simp [intOf]
           ·have d3:decide (r.uc > 0) = false:=decide_eq_false h3
            have HK2:Hid (okTo r 3 = true):=by
             show (okTo r 2 && inM (getU r ((2:Nat):Int))) = true
             rw [HK.out]; unfold inM inB; simp [getU]; omega
            have HG2:Hid (someTo r 3 = false):=by
             show (someTo r 2 || decide (0 < getU r ((2:Nat):Int))) = false
             rw [HG.out]; simp [getU]; try omega
            clear HK HG
            try simp only [Int.natCast_zero,Int.natCast_one]
            go_wp2_with fail
            go_roundw
            case rel => exact ⟨3,false,rfl,by go_num,by omega,HK2,HG2,by first | rfl | trivial⟩
            case measure => simp [intOf]
          ·skip
           have HK2:Hid (okTo r 3 = true):=by
            show (okTo r 2 && inM (getU r ((2:Nat):Int))) = true
            rw [HK.out]; unfold inM inB; simp [getU]; omega
           have HG2:Hid (someTo r 3 = true):=by
            show (someTo r 2 || decide (0 < getU r ((2:Nat):Int))) = true
            rw [HG.out]; simp [getU]
           clear HK HG
           try simp only [Int.natCast_zero,Int.natCast_one]
           go_wp2_with fail
           go_roundw
           case rel => exact ⟨3,true,rfl,by go_num,by omega,HK2,HG2,by first | rfl | trivial⟩
           case measure => simp [intOf]
      ·obtain rfl:k = 3:=by omega
       have hsm:=someTo3 HK.out
       rw [HG.out] at hsm
       have hok:=HK.out
       rw [okTo3] at hok
       cases g
       ·have hbad:stepR d i = false:=by rw [HST.out,hok,← hsm]; simp
        have HF:=Lib.hid (HBAD.out hbad)
        clear hbad hsm hok
        go_wp2_with fail
        go_ret
        exact ⟨by rw [HF.out]; rfl,hB4⟩
       ·have hgood:stepR d i = true:=by rw [HST.out,hok,← hsm,HI1.out,HP.out,HI2.out]; rfl
        have HN:Hid (∀ j,j < i + 1 → stepR d j = true):=fun j hj => by
         by_cases e:j = i
         ·subst e; exact hgood
         ·exact HS.out j (by omega)
        clear hgood hsm hok
        go_wp2_with fail
        go_roundw
        case rel => exact ⟨i + 1,by go_num,by omega,HN,hB4⟩
        case measure => simp [intOf]; omega
    ·have HF:=Lib.hid (HBAD.out (HB1.out rfl))
     clear HB1 HB2 hX4
     go_wp2_with fail
     go_ret
     exact ⟨by rw [HF.out]; rfl,hB4⟩
  ·have hie:i = n:=by omega
   have hall:rightB d = true:=rightB_true.2 (fun j hj => HS.out j (by rw [HD.out] at hj; omega))
   have HF:=Lib.hid hall
   clear hall HS
   go_wp2_with fail
   go_ret
   exact ⟨by rw [HF.out]; rfl,hB⟩
end Go.Proofs.YtodcoockhkghdaaGreat.Kb

/- Layer 20's Small: a right plan of few contacts, a right ledger. It makes new memory alone. -/
namespace Go.Proofs.YtodcoockhkghdaaGreat
open Go.ChangeShapes Go.WideShapes Go.ChangeAt Go.RowKit Go.Sort
set_option linter.unusedSimpArgs false
set_option linter.unusedVariables false
def smallP (cs:List Co) (rs:List Rg) (clk ver:Int) (bk:List Bk):Bool:=(decide (cs.length ≤ 10) && decide (rs.length ≤ 50) && decide (bk.length ≤ 50)) && (rightP cs rs clk ver && Kb.rightB bk)
theorem smallP_spec {cs:List Co} {rs:List Rg} {clk ver:Int} {bk:List Bk}:smallP cs rs clk ver bk = true ↔ (cs.length ≤ 10 ∧ rs.length ≤ 50 ∧ bk.length ≤ 50) ∧ RightP cs rs clk ver ∧ Kb.rightB bk = true:=by
 unfold smallP
 rw [Bool.and_eq_true,Bool.and_eq_true,Bool.and_eq_true,Bool.and_eq_true,decide_eq_true_eq,decide_eq_true_eq,decide_eq_true_eq,rightP_spec]
 constructor
 ·rintro ⟨⟨⟨h1,h2⟩,h3⟩,h4,h5⟩; exact ⟨⟨h1,h2,h3⟩,h4,h5⟩
 ·rintro ⟨⟨h1,h2,h3⟩,h4,h5⟩; exact ⟨⟨⟨h1,h2⟩,h3⟩,h4,h5⟩
theorem smallP_no {cs:List Co} {rs:List Rg} {clk ver:Int} {bk:List Bk} (h:10 < cs.length ∨ 50 < rs.length ∨ 50 < bk.length):smallP cs rs clk ver bk = false:=by
 cases hc:smallP cs rs clk ver bk with
 | false => rfl
 | true =>
  obtain ⟨⟨h1,h2,h3⟩,_⟩:=smallP_spec.1 hc
  omega
theorem smallP_in {cs:List Co} {rs:List Rg} {clk ver:Int} {bk:List Bk} (h1:cs.length ≤ 10) (h2:rs.length ≤ 50) (h3:bk.length ≤ 50):smallP cs rs clk ver bk = (rightP cs rs clk ver && Kb.rightB bk):=by
 unfold smallP
 rw [decide_eq_true h1,decide_eq_true h2,decide_eq_true h3]
 rfl
set_option maxHeartbeats 8000000 in
set_option maxRecDepth 100000 in
theorem Small20_any (A1:Option Addr) (n1 c1:Nat) (cs:List Co) (A:Option Addr) (n c:Nat) (rs:List Rg) (clk ver:Int) (A2:Option Addr) (n2 c2:Nat) (bk:List Bk) (w:World) (hd1:cs.length = n1) (hd:rs.length = n) (hd2:bk.length = n2) (h1:Sl w w.heap.size 6 A1 n1 c1 (flatCo cs)) (h:Sl w w.heap.size 5 A n c (flatRg rs)) (h2:Sl w w.heap.size 4 A2 n2 c2 (flatBk bk)) (b:Bool) (hb:smallP cs rs clk ver bk = b) :
  Calls Tryz.prog 10 #[.agg #[.slice A1 n1 c1,.slice A n c,.int .i64 clk,.int .i64 ver],.slice A2 n2 c2] w fun e w' => e = .returned (.bool b) ∧ Below w.heap.size w w':=by
 have hB:Below w.heap.size w (w.alloc (.cells #[.slice A1 n1 c1,.slice A n c,.int .i64 clk,.int .i64 ver] 25)):=by (repeat (first | exact Below.refl _ _ | refine Below.alloc ?_ (by first | omega | (simp; done) | (simp; omega)) _ | refine Below.setCell ?_ (by first | omega | (simp; done) | (simp; omega)) _ | refine Below.drew ?_))
 have hP:=Blok.new w 25 #[.slice A1 n1 c1,.slice A n c,.int .i64 clk,.int .i64 ver]
 have HD1:=Lib.hid hd1
 have HD:=Lib.hid hd
 have HD2:=Lib.hid hd2
 have HL1:=Lib.hid (fun w' (hb:Below w.heap.size w w') => h1.up hb)
 have HL:=Lib.hid (fun w' (hb:Below w.heap.size w w') => h.up hb)
 have HL2:=Lib.hid (fun w' (hb:Below w.heap.size w w') => h2.up hb)
 have HS:=Lib.hid hb
 obtain ⟨b1,q1⟩:∃ q,rightP cs rs clk ver = q:=⟨_,rfl⟩
 obtain ⟨b2,q2⟩:∃ q,Kb.rightB bk = q:=⟨_,rfl⟩
 have HQ1:=Lib.hid q1
 have HQ2:=Lib.hid q2
 clear hd1 hd hd2 h1 h h2 hb q1 q2
 go_enter Tryz.func10,Tryz.ntmps10
 go_upto_region 1 with fail
 generalize w.alloc (.cells #[.slice A1 n1 c1,.slice A n c,.int .i64 clk,.int .i64 ver] 25) = w0 at *
 by_cases hg:10 < n1 ∨ 50 < n ∨ 50 < n2
 ·have hf:b = false:=by rw [← HS.out]; exact smallP_no (by rw [HD1.out,HD.out,HD2.out]; exact hg)
  subst hf
  have hg':(10 < n1) ∨ (n1 ≤ 10 ∧ 50 < n) ∨ (n1 ≤ 10 ∧ n ≤ 50 ∧ 50 < n2):=by omega
  clear hg
  have p0:w0.cell? ⟨w.heap.size,0,none⟩ = some (.slice A1 n1 c1):=hP.cell 0
  have p1:w0.cell? ⟨w.heap.size,1,none⟩ = some (.slice A n c):=hP.cell 1
  have p2:w0.cell? ⟨w.heap.size,2,none⟩ = some (.int .i64 clk):=hP.cell 2
  have p3:w0.cell? ⟨w.heap.size,3,none⟩ = some (.int .i64 ver):=hP.cell 3
  have lt_p:=hP.lt
  rcases hg' with g0 | ⟨g0,g1⟩ | ⟨g0,g1,g2⟩
  all_goals
   go_wp2_with fail
   go_ret
   exact ⟨rfl,hB⟩
 have hg0:n1 ≤ 10:=by omega
 have hg1:n ≤ 50:=by omega
 have hg2:n2 ≤ 50:=by omega
 have HSV:=Lib.hid ((smallP_in (clk:=clk) (ver:=ver) (by rw [HD1.out]; exact hg0) (by rw [HD.out]; exact hg1) (by rw [HD2.out]; exact hg2)).symm.trans HS.out)
 clear hg HS
 have p0:w0.cell? ⟨w.heap.size,0,none⟩ = some (.slice A1 n1 c1):=hP.cell 0
 have p1:w0.cell? ⟨w.heap.size,1,none⟩ = some (.slice A n c):=hP.cell 1
 have p2:w0.cell? ⟨w.heap.size,2,none⟩ = some (.int .i64 clk):=hP.cell 2
 have p3:w0.cell? ⟨w.heap.size,3,none⟩ = some (.int .i64 ver):=hP.cell 3
 have lt_p:=hP.lt
 have HP:=Lib.hid hP
 clear hP
 go_wp2_with fail
 refine (rright8_any A1 n1 c1 cs A n c rs clk ver w0 HD1.out (by omega) HD.out (by omega) (HL1.out _ hB) (HL.out _ hB) b1 HQ1.out).mono ?_
 rintro e w1 ⟨rfl,hb⟩
 replace hB:=hB.trans (hb.mono hB.size)
 clear hb p0 p1 p2 p3 lt_p HP
 go_wp2_with fail
 refine (Kb.rright_any A2 n2 c2 bk w1 HD2.out (by omega) (HL2.out _ hB)).mono ?_
 rintro e w2 ⟨rfl,hb⟩
 replace hB:=hB.trans (hb.mono hB.size)
 clear hb
 rw [HQ2.out]
 have hbv:b = (b1 && b2):=by rw [← HSV.out,HQ1.out,HQ2.out]
 subst hbv
 cases b1 with
 | false =>
  go_wp2_with fail
  go_ret
  exact ⟨rfl,hB⟩
 | true =>
  go_wp2_with fail
  go_ret
  exact ⟨rfl,hB⟩
end Go.Proofs.YtodcoockhkghdaaGreat
