/- Contract of plan.step. It makes new memory alone. -/
import Derived.Test.YtjldgcebadojiaaGreatDoorGQ15
namespace Go.Proofs.YtjldgcebadojiaaGreatDoor
open Go.ChangeShapes Go.WideShapes Go.ChangeAt Go.RowKit Go.Sort
set_option linter.unusedSimpArgs false
set_option linter.unusedVariables false
/-- The tables lie in other blocks. -/
def Apart (b:Nat) (A1:Option Addr) (n1:Nat) (A:Option Addr) (n:Nat):Prop:=(∀ ad,A1 = some ad → 0 < n1 → ad.block ≠ b) ∧ (∀ ad,A = some ad → 0 < n → ad.block ≠ b)
theorem apart_own {w:World} {base:Nat} {T:TypeId} {K:Nat} {A:Option Addr} {n c:Nat} {xs:List Value} {b:Nat} (h:w.ownsRow base T K (.slice A n c) n xs) (hb:b < base):∀ ad,A = some ad → 0 < n → ad.block ≠ b:=by
 intro ad e _ e2
 subst e
 have:=(h.lt ad.block rfl).1
 omega
/-- What step hands back: a plan, of which the table that changed is new. -/
def StepRet (A1:Option Addr) (n1:Nat) (A:Option Addr) (n:Nat) (p:Pl) (d:Dr) (w:World) (e:Ending) (w':World):Prop:=
 ∃ A2 n2 c2 A3 n3 c3,e = .returned (.tuple #[.agg #[.slice A2 n2 c2,.slice A3 n3 c3,.int .i64 (stepP p d).clk,.int .i64 (stepP p d).ver],.int .i64 (stepQ p d)]) ∧ PlAt w' A2 n2 c2 A3 n3 c3 (stepP p d) ∧ Below w.heap.size w w' ∧ (∀ b,b < w.heap.size → Apart b A1 n1 A n → Apart b A2 n2 A3 n3) ∧
  (stepQ p d = 0 → (d.kd = 1 → w'.ownsRow w.heap.size 34 6 (.slice A2 n2 c2) n2 (flatCo (stepP p d).cs)) ∧ (d.kd ≠ 1 → w'.ownsRow w.heap.size 36 5 (.slice A3 n3 c3) n3 (flatRg (stepP p d).rs)))
theorem stepP_no {p:Pl} {d:Dr} {q:Int} (h:stepQ p d = q) (hq:q ≠ 0):stepP p d = p:=by unfold stepP; rw [if_neg (by rw [h]; exact hq)]
theorem StepRet.no {p:Pl} {d:Dr} {w w':World} {A1:Option Addr} {n1 c1:Nat} {A:Option Addr} {n c:Nat} {q:Int} {e:Ending} (h:PlAt w A1 n1 c1 A n c p) (hb:Below w.heap.size w w') (hs:stepQ p d = q) (hq:q ≠ 0) (he:e = .returned (.tuple #[.agg #[.slice A1 n1 c1,.slice A n c,.int .i64 p.clk,.int .i64 p.ver],.int .i64 q])):StepRet A1 n1 A n p d w e w':=by
 have hp:=stepP_no hs hq
 refine ⟨A1,n1,c1,A,n,c,?_,?_,hb,fun _ _ ha => ha,fun h0 => absurd (hs.symm.trans h0) hq⟩
 ·rw [he,hp,hs]
 ·rw [hp]; exact h.up hb
set_option maxHeartbeats 16000000 in
set_option maxRecDepth 100000 in
theorem pstep_any (A1:Option Addr) (n1 c1:Nat) (A:Option Addr) (n c:Nat) (p:Pl) (d:Dr) (w:World) (hw0:(Lit.int .i64 d.op).wf = true) (hw1:(Lit.int .i64 d.kd).wf = true) (h:PlAt w A1 n1 c1 A n c p) (hr:p.right = true) :
  Calls Tryz.prog 112 #[.agg #[.slice A1 n1 c1,.slice A n c,.int .i64 p.clk,.int .i64 p.ver],.agg #[.int .i64 d.op,.int .i64 d.kd,.int .i64 d.id,.int .i64 d.fr,.int .i64 d.tn,.int .i64 d.st,.int .i64 d.en,.int .i64 d.rt,.int .i64 d.rf,.int .i64 d.rn,.int .i64 d.rs,.int .i64 d.re,.int .i64 d.ro]] w (StepRet A1 n1 A n p d w):=by
 have hB:Below w.heap.size w (((w.alloc (.cells #[.slice A1 n1 c1,.slice A n c,.int .i64 p.clk,.int .i64 p.ver] 25)).alloc (.cells #[.int .i64 d.op,.int .i64 d.kd,.int .i64 d.id,.int .i64 d.fr,.int .i64 d.tn,.int .i64 d.st,.int .i64 d.en,.int .i64 d.rt,.int .i64 d.rf,.int .i64 d.rn,.int .i64 d.rs,.int .i64 d.re,.int .i64 d.ro] 38)).alloc (.cells #[.slice none 0 0,.slice none 0 0,.int .i64 0,.int .i64 0] 25)):=by (repeat (first | exact Below.refl _ _ | refine Below.alloc ?_ (by first | omega | (simp; done) | (simp; omega)) _ | refine Below.setCell ?_ (by first | omega | (simp; done) | (simp; omega)) _ | refine Below.drew ?_))
 have hP:=((Blok.new w 25 #[.slice A1 n1 c1,.slice A n c,.int .i64 p.clk,.int .i64 p.ver]).alloc (.cells #[.int .i64 d.op,.int .i64 d.kd,.int .i64 d.id,.int .i64 d.fr,.int .i64 d.tn,.int .i64 d.st,.int .i64 d.en,.int .i64 d.rt,.int .i64 d.rf,.int .i64 d.rn,.int .i64 d.rs,.int .i64 d.re,.int .i64 d.ro] 38)).alloc (.cells #[.slice none 0 0,.slice none 0 0,.int .i64 0,.int .i64 0] 25)
 have hD:=(Blok.new (w.alloc (.cells #[.slice A1 n1 c1,.slice A n c,.int .i64 p.clk,.int .i64 p.ver] 25)) 38 #[.int .i64 d.op,.int .i64 d.kd,.int .i64 d.id,.int .i64 d.fr,.int .i64 d.tn,.int .i64 d.st,.int .i64 d.en,.int .i64 d.rt,.int .i64 d.rf,.int .i64 d.rn,.int .i64 d.rs,.int .i64 d.re,.int .i64 d.ro]).alloc (.cells #[.slice none 0 0,.slice none 0 0,.int .i64 0,.int .i64 0] 25)
 have hR:=Blok.new ((w.alloc (.cells #[.slice A1 n1 c1,.slice A n c,.int .i64 p.clk,.int .i64 p.ver] 25)).alloc (.cells #[.int .i64 d.op,.int .i64 d.kd,.int .i64 d.id,.int .i64 d.fr,.int .i64 d.tn,.int .i64 d.st,.int .i64 d.en,.int .i64 d.rt,.int .i64 d.rf,.int .i64 d.rn,.int .i64 d.rs,.int .i64 d.re,.int .i64 d.ro] 38)) 25 #[.slice none 0 0,.slice none 0 0,.int .i64 0,.int .i64 0]
 simp only [World.size_alloc] at hD hR
 have H0:=Lib.hid h
 replace h:=h.up hB
 have hs:=hB.size
 have HRP:=Lib.hid (Pl.right_spec.1 hr)
 obtain ⟨rd,hrd⟩:∃ x,rightD d = x:=⟨_,rfl⟩
 have HRD:=Lib.hid hrd
 clear hr hrd
 go_enter Tryz.func112,Tryz.ntmps112
 go_upto_region 1 with fail
 generalize ((w.alloc (.cells #[.slice A1 n1 c1,.slice A n c,.int .i64 p.clk,.int .i64 p.ver] 25)).alloc (.cells #[.int .i64 d.op,.int .i64 d.kd,.int .i64 d.id,.int .i64 d.fr,.int .i64 d.tn,.int .i64 d.st,.int .i64 d.en,.int .i64 d.rt,.int .i64 d.rf,.int .i64 d.rn,.int .i64 d.rs,.int .i64 d.re,.int .i64 d.ro] 38)).alloc (.cells #[.slice none 0 0,.slice none 0 0,.int .i64 0,.int .i64 0] 25) = w0 at *
 obtain ⟨y0,y1,y2,y3,y4,y5,y6,y7,y8,y9,y10,y11,y12,lt_y⟩:=blok13 hD
 go_wp2_with fail
 clear y0 y1 y2 y3 y4 y5 y6 y7 y8 y9 y10 y11 y12 lt_y
 refine (dright_any d w0 hw0 hw1 rd HRD.out).mono ?_
 rintro e w1 ⟨rfl,hb⟩
 replace h:=h.up hb
 replace hP:=hP.below hb hP.lt
 replace hD:=hD.below hb hD.lt
 replace hR:=hR.below hb hR.lt
 replace hB:=hB.trans (hb.mono hs)
 replace hs:=hB.size
 clear hb
 cases rd
 ·have HQ:=Lib.hid (show stepQ p d = 1 by unfold stepQ; rw [if_pos HRD.out])
  obtain ⟨p0,p1,p2,p3,lt_p⟩:=blok4 (show Blok _ _ _ #[.slice A1 n1 c1,.slice A n c,.int .i64 p.clk,.int .i64 p.ver] from hP)
  obtain ⟨r0,r1,r2,r3,lt_x⟩:=blok4 hR
  obtain ⟨f_0,f_1,f_2,f_3⟩:=free4 hR
  have HX:=Lib.hid hR
  clear hR
  go_wp2_with fail
  have hX:=HX.out
  clear r0 r1 r2 r3 p0 p1 p2 p3
  obtain ⟨hF,hWf,hgw⟩:=ret4 (show Blok _ _ _ #[_,_,_,_] from hX) hB (show w.heap.size ≤ (w.heap.size + 1 + 1) by first | exact Nat.le_refl _ | omega) (.slice A1 n1 c1) (.slice A n c) (.int .i64 p.clk) (.int .i64 p.ver)
  have hlF:=hF.lt
  generalize (((w1.setCell ⟨(w.heap.size + 1 + 1),0,none⟩ (.slice A1 n1 c1)).setCell ⟨(w.heap.size + 1 + 1),1,none⟩ (.slice A n c)).setCell ⟨(w.heap.size + 1 + 1),2,none⟩ (.int .i64 p.clk)).setCell ⟨(w.heap.size + 1 + 1),3,none⟩ (.int .i64 p.ver) = wf at *
  obtain ⟨r0,r1,r2,r3,_⟩:=blok4 hF
  refine bodyPost_ret (v:=.tuple #[.agg #[.slice A1 n1 c1,.slice A n c,.int .i64 p.clk,.int .i64 p.ver],.int .i64 1]) (by simp [results,Tryz.results112,go_sem,r0,r1,r2,r3,hlF]) rfl ?_
  exact StepRet.no H0.out hWf HQ.out (by first | omega | assumption) rfl
 go_upto_region 3 with fail
 obtain ⟨y0,y1,y2,y3,y4,y5,y6,y7,y8,y9,y10,y11,y12,lt_y⟩:=blok13 hD
 have p2:w1.cell? ⟨w.heap.size,2,none⟩ = some (.int .i64 p.clk):=hP.cell 2
 have lt_p:=hP.lt
 have HEN:=Lib.hid (fun (w':World) => pend_any d w' _ rfl)
 have HPAST:∀ (w2:World),Below w1.heap.size w1 w2 → True:=fun _ _ => trivial
 clear HPAST
 by_cases hop:d.op = 1
 ·have g1:(d.op == 1) = true:=by simp [hop]
  have HOP:=Lib.hid hop
  clear hop
  by_cases hpast:endD d ≤ p.clk
  ·have g2:decide (endD d ≤ p.clk) = true:=decide_eq_true hpast
   have HQ:=Lib.hid (show stepQ p d = 7 by unfold stepQ; rw [if_neg (by rw [HRD.out]; simp),if_pos ⟨HOP.out,hpast⟩])
   have q_y0:=fun d os => cell_regrown y0 d os
   have q_y1:=fun d os => cell_regrown y1 d os
   have q_y2:=fun d os => cell_regrown y2 d os
   have q_y3:=fun d os => cell_regrown y3 d os
   have q_y4:=fun d os => cell_regrown y4 d os
   have q_y5:=fun d os => cell_regrown y5 d os
   have q_y6:=fun d os => cell_regrown y6 d os
   have q_y7:=fun d os => cell_regrown y7 d os
   have q_y8:=fun d os => cell_regrown y8 d os
   have q_y9:=fun d os => cell_regrown y9 d os
   have q_y10:=fun d os => cell_regrown y10 d os
   have q_y11:=fun d os => cell_regrown y11 d os
   have q_y12:=fun d os => cell_regrown y12 d os
   have q_p2:=fun d os => cell_regrown p2 d os
   try simp only [List.append]
   first | refine wp_region_text_below ?_ | refine wp_region_quiet_below (by kernel_rfl) (by kernel_rfl) ?_
   repeat (go_big_quiet_step ((go_at_call 179; with_reducible exact Calls.regrown_of (HEN.out _))))
   refine wpQuiet_nil ?_
   intro _ hqw
   obtain ⟨pq,hqw⟩:=hqw
   subst hqw
   clear q_y0 q_y1 q_y2 q_y3 q_y4 q_y5 q_y6 q_y7 q_y8 q_y9 q_y10 q_y11 q_y12 q_p2
   have hb:=below_regrown w1 pq.d pq.os
   clear y0 y1 y2 y3 y4 y5 y6 y7 y8 y9 y10 y11 y12 lt_y
   clear p2 lt_p g1 g2
   replace h:=h.up hb
   replace hP:=hP.below hb hP.lt
   replace hD:=hD.below hb hD.lt
   replace hR:=hR.below hb hR.lt
   replace hB:=hB.trans (hb.mono hs)
   replace hs:=hB.size
   clear hb
   generalize grow (redrawn w1 pq.d) pq.os = w2 at *
   obtain ⟨p0,p1,p2,p3,lt_p⟩:=blok4 (show Blok _ _ _ #[.slice A1 n1 c1,.slice A n c,.int .i64 p.clk,.int .i64 p.ver] from hP)
   obtain ⟨r0,r1,r2,r3,lt_x⟩:=blok4 hR
   obtain ⟨f_0,f_1,f_2,f_3⟩:=free4 hR
   have HX:=Lib.hid hR
   clear hR
   go_wp2_with fail
   have hX:=HX.out
   clear r0 r1 r2 r3 p0 p1 p2 p3
   obtain ⟨hF,hWf,hgw⟩:=ret4 (show Blok _ _ _ #[_,_,_,_] from hX) hB (show w.heap.size ≤ (w.heap.size + 1 + 1) by first | exact Nat.le_refl _ | omega) (.slice A1 n1 c1) (.slice A n c) (.int .i64 p.clk) (.int .i64 p.ver)
   have hlF:=hF.lt
   generalize (((w2.setCell ⟨(w.heap.size + 1 + 1),0,none⟩ (.slice A1 n1 c1)).setCell ⟨(w.heap.size + 1 + 1),1,none⟩ (.slice A n c)).setCell ⟨(w.heap.size + 1 + 1),2,none⟩ (.int .i64 p.clk)).setCell ⟨(w.heap.size + 1 + 1),3,none⟩ (.int .i64 p.ver) = wf at *
   obtain ⟨r0,r1,r2,r3,_⟩:=blok4 hF
   refine bodyPost_ret (v:=.tuple #[.agg #[.slice A1 n1 c1,.slice A n c,.int .i64 p.clk,.int .i64 p.ver],.int .i64 7]) (by simp [results,Tryz.results112,go_sem,r0,r1,r2,r3,hlF]) rfl ?_
   exact StepRet.no H0.out hWf HQ.out (by first | omega | assumption) rfl
  ·have g2:decide (endD d ≤ p.clk) = false:=decide_eq_false hpast
   have HNP:=Lib.hid (show ¬ (d.op = 1 ∧ endD d ≤ p.clk) from fun hc => hpast hc.2)
   clear hpast
   have q_y0:=fun d os => cell_regrown y0 d os
   have q_y1:=fun d os => cell_regrown y1 d os
   have q_y2:=fun d os => cell_regrown y2 d os
   have q_y3:=fun d os => cell_regrown y3 d os
   have q_y4:=fun d os => cell_regrown y4 d os
   have q_y5:=fun d os => cell_regrown y5 d os
   have q_y6:=fun d os => cell_regrown y6 d os
   have q_y7:=fun d os => cell_regrown y7 d os
   have q_y8:=fun d os => cell_regrown y8 d os
   have q_y9:=fun d os => cell_regrown y9 d os
   have q_y10:=fun d os => cell_regrown y10 d os
   have q_y11:=fun d os => cell_regrown y11 d os
   have q_y12:=fun d os => cell_regrown y12 d os
   have q_p2:=fun d os => cell_regrown p2 d os
   try simp only [List.append]
   first | refine wp_region_text_below ?_ | refine wp_region_quiet_below (by kernel_rfl) (by kernel_rfl) ?_
   repeat (go_big_quiet_step ((go_at_call 179; with_reducible exact Calls.regrown_of (HEN.out _))))
   refine wpQuiet_nil ?_
   intro _ hqw
   obtain ⟨pq,hqw⟩:=hqw
   subst hqw
   clear q_y0 q_y1 q_y2 q_y3 q_y4 q_y5 q_y6 q_y7 q_y8 q_y9 q_y10 q_y11 q_y12 q_p2
   have hb:=below_regrown w1 pq.d pq.os
   clear y0 y1 y2 y3 y4 y5 y6 y7 y8 y9 y10 y11 y12 lt_y
   clear p2 lt_p g1 g2
   replace h:=h.up hb
   replace hP:=hP.below hb hP.lt
   replace hD:=hD.below hb hD.lt
   replace hR:=hR.below hb hR.lt
   replace hB:=hB.trans (hb.mono hs)
   replace hs:=hB.size
   clear hb
   generalize grow (redrawn w1 pq.d) pq.os = w2 at *

   obtain ⟨p0,p1,p2,p3,lt_p⟩:=blok4 (show Blok _ _ _ #[.slice A1 n1 c1,.slice A n c,.int .i64 p.clk,.int .i64 p.ver] from hP)
   go_wp2_with fail
   clear p0 p1 p2 p3 lt_p
   refine (pchanged_any A1 n1 c1 A n c p.clk p.ver HRP.out.v0 HRP.out.v1 _ rfl w2).mono ?_
   rintro e w3 ⟨rfl,hb⟩
   replace h:=h.up hb
   replace hP:=hP.below hb hP.lt
   replace hD:=hD.below hb hD.lt
   replace hR:=hR.below hb hR.lt
   replace hB:=hB.trans (hb.mono hs)
   replace hs:=hB.size
   clear hb
   obtain ⟨nv,hnv⟩:∃ x,min (p.ver + 1) 1099511627776 = x:=⟨_,rfl⟩
   rw [hnv]
   have HNV:=Lib.hid hnv
   clear hnv
   go_upto_region 7 with fail
   have hnlt:w.heap.size + 1 + 1 < w3.heap.size:=hR.lt
   have hN:=Blok.new w3 25 #[.slice A1 n1 c1,.slice A n c,.int .i64 p.clk,.int .i64 nv]
   have hb:Below w3.heap.size w3 (w3.alloc (.cells #[.slice A1 n1 c1,.slice A n c,.int .i64 p.clk,.int .i64 nv] 25)):=by (repeat (first | exact Below.refl _ _ | refine Below.alloc ?_ (by first | omega | (simp; done) | (simp; omega)) _ | refine Below.setCell ?_ (by first | omega | (simp; done) | (simp; omega)) _ | refine Below.drew ?_))
   replace h:=h.up hb
   replace hP:=hP.below hb hP.lt
   replace hD:=hD.below hb hD.lt
   replace hR:=hR.below hb hR.lt
   replace hB:=hB.trans (hb.mono hs)
   replace hs:=hB.size
   clear hb
   generalize w3.alloc (.cells #[.slice A1 n1 c1,.slice A n c,.int .i64 p.clk,.int .i64 nv] 25) = w4 at *
   generalize w3.heap.size = bN at *
   by_cases hk:d.kd = 1
   ·have g3:(d.kd == 1) = true:=by simp [hk]
    have HK:=Lib.hid hk
    clear hk
    obtain ⟨q,hq⟩:∃ x,stepCq p.cs d = x:=⟨_,rfl⟩
    obtain ⟨l,hl⟩:∃ x,stepCl p.cs d = x:=⟨_,rfl⟩
    have HQ:=Lib.hid (show stepQ p d = q by unfold stepQ; rw [if_neg (by rw [HRD.out]; simp),if_neg HNP.out,if_pos HK.out]; exact hq)
    have hlr:Kc.rightC l = true:=by rw [← hl]; exact stepCl_right HRP.out.co
    have HLL:=Lib.hid (rightC_len hlr)
    have HL:=Lib.hid hl
    obtain ⟨y0,y1,y2,y3,y4,y5,y6,y7,y8,y9,y10,y11,y12,lt_y⟩:=blok13 hD
    have p0:w4.cell? ⟨w.heap.size,0,none⟩ = some (.slice A1 n1 c1):=hP.cell 0
    have lt_p:=hP.lt
    have n0:w4.cell? ⟨bN,0,none⟩ = some (.slice A1 n1 c1):=hN.cell 0
    have nf0:=hN.free 0
    have lt_n:=hN.lt
    go_wp2_with fail
    clear y0 y1 y2 y3 y4 y5 y6 y7 y8 y9 y10 y11 y12 lt_y
    clear p0 lt_p n0 nf0
    refine (pstepC_any A1 n1 c1 p.cs d w4 h.l1 h.b1 h.s1 HRP.out.co q hq l hl).mono ?_
    rintro e w5 ⟨v,rfl,hv,hb⟩
    clear hq hl hlr
    replace h:=h.up hb
    replace hP:=hP.below hb hP.lt
    replace hD:=hD.below hb hD.lt
    replace hR:=hR.below hb hR.lt
    replace hN:=hN.below hb hN.lt
    replace hB:=hB.trans (hb.mono hs)
    replace hs:=hB.size
    clear hb
    obtain ⟨nl,hnl⟩:∃ x,l.length = x:=⟨_,rfl⟩
    rw [hnl] at hv
    have HNL:=Lib.hid hnl
    obtain ⟨A2,c2,rfl⟩:=slice_of_own hv
    have n0:w5.cell? ⟨bN,0,none⟩ = some (.slice A1 n1 c1):=hN.cell 0
    have nf0:=hN.free 0
    have lt_n2:=hN.lt
    clear hnl
    go_upto_region 10 with fail
    replace hN:=hN.set_ 0 (.slice A2 nl c2)
    replace hP:=hP.far (p:=⟨bN,0,none⟩) (by show w.heap.size ≠ bN; omega) (.slice A2 nl c2)
    replace hR:=hR.far (p:=⟨bN,0,none⟩) (by show w.heap.size + 1 + 1 ≠ bN; omega) (.slice A2 nl c2)
    replace hv:=own_far hv (grown_set (g:=bN) w5 0 (.slice A2 nl c2)) (fun g hg => by injection hg with hg; omega)
    replace hB:=hB.setCell (p:=⟨bN,0,none⟩) (by show w.heap.size ≤ bN; omega) (.slice A2 nl c2)
    replace hs:=hB.size
    clear n0 nf0 lt_n2 hD h
    generalize w5.setCell ⟨bN,0,none⟩ (.slice A2 nl c2) = w6 at *
    by_cases hq0:q = 0
    ·subst hq0
     have g4:((0:Int) != 0) = false:=by simp
     have n0:w6.cell? ⟨bN,0,none⟩ = some (.slice A2 nl c2):=hN.cell 0
     have n1':w6.cell? ⟨bN,1,none⟩ = some (.slice A n c):=hN.cell 1
     have n2:w6.cell? ⟨bN,2,none⟩ = some (.int .i64 p.clk):=hN.cell 2
     have n3:w6.cell? ⟨bN,3,none⟩ = some (.int .i64 nv):=hN.cell 3
     have lt_n3:=hN.lt
     obtain ⟨r0,r1,r2,r3,lt_x⟩:=blok4 hR
     obtain ⟨f_0,f_1,f_2,f_3⟩:=free4 hR
     have HX:=Lib.hid hR
     clear hR
     go_wp2_with fail
     have hX:=HX.out
     clear r0 r1 r2 r3 n0 n1' n2 n3
     obtain ⟨hF,hWf,hgw⟩:=ret4 (show Blok _ _ _ #[_,_,_,_] from hX) hB (show w.heap.size ≤ (w.heap.size + 1 + 1) by first | exact Nat.le_refl _ | omega) (.slice A2 nl c2) (.slice A n c) (.int .i64 p.clk) (.int .i64 nv)
     have hlF:=hF.lt
     generalize (((w6.setCell ⟨(w.heap.size + 1 + 1),0,none⟩ (.slice A2 nl c2)).setCell ⟨(w.heap.size + 1 + 1),1,none⟩ (.slice A n c)).setCell ⟨(w.heap.size + 1 + 1),2,none⟩ (.int .i64 p.clk)).setCell ⟨(w.heap.size + 1 + 1),3,none⟩ (.int .i64 nv) = wf at *
     obtain ⟨r0,r1,r2,r3,_⟩:=blok4 hF
     refine bodyPost_ret (v:=.tuple #[.agg #[.slice A2 nl c2,.slice A n c,.int .i64 p.clk,.int .i64 nv],.int .i64 0]) (by simp [results,Tryz.results112,go_sem,r0,r1,r2,r3,hlF]) rfl ?_
     have hvf:=own_far hv hgw (fun g hg => by injection hg with hg; omega)
     have hpp:stepP p d = ⟨l,p.rs,p.clk,nv⟩:=by unfold stepP; rw [if_pos HQ.out,if_pos HK.out,HL.out,HNV.out]
     have hlf:=HNL.out
     have hle:=HLL.out
     refine ⟨A2,nl,c2,A,n,c,by rw [hpp,HQ.out],by rw [hpp]; exact ⟨hlf,H0.out.l,by omega,H0.out.b,Sl.of_own hvf,H0.out.s.up hWf⟩,hWf,fun b hbl ha => ⟨apart_own hvf (by omega),ha.2⟩,fun _ => by rw [hpp]; exact ⟨fun _ => own_down hvf (by omega),fun hk2 => absurd HK.out hk2⟩⟩
    ·have g4:(q != 0) = true:=by simp [hq0]
     obtain ⟨p0,p1,p2,p3,lt_p⟩:=blok4 (show Blok _ _ _ #[.slice A1 n1 c1,.slice A n c,.int .i64 p.clk,.int .i64 p.ver] from hP)
     obtain ⟨r0,r1,r2,r3,lt_x⟩:=blok4 hR
     obtain ⟨f_0,f_1,f_2,f_3⟩:=free4 hR
     have HX:=Lib.hid hR
     clear hR
     go_wp2_with fail
     have hX:=HX.out
     clear r0 r1 r2 r3 p0 p1 p2 p3
     obtain ⟨hF,hWf,hgw⟩:=ret4 (show Blok _ _ _ #[_,_,_,_] from hX) hB (show w.heap.size ≤ (w.heap.size + 1 + 1) by first | exact Nat.le_refl _ | omega) (.slice A1 n1 c1) (.slice A n c) (.int .i64 p.clk) (.int .i64 p.ver)
     have hlF:=hF.lt
     generalize (((w6.setCell ⟨(w.heap.size + 1 + 1),0,none⟩ (.slice A1 n1 c1)).setCell ⟨(w.heap.size + 1 + 1),1,none⟩ (.slice A n c)).setCell ⟨(w.heap.size + 1 + 1),2,none⟩ (.int .i64 p.clk)).setCell ⟨(w.heap.size + 1 + 1),3,none⟩ (.int .i64 p.ver) = wf at *
     obtain ⟨r0,r1,r2,r3,_⟩:=blok4 hF
     refine bodyPost_ret (v:=.tuple #[.agg #[.slice A1 n1 c1,.slice A n c,.int .i64 p.clk,.int .i64 p.ver],.int .i64 q]) (by simp [results,Tryz.results112,go_sem,r0,r1,r2,r3,hlF]) rfl ?_
     exact StepRet.no H0.out hWf HQ.out (by first | omega | assumption) rfl
   ·have g3:(d.kd == 1) = false:=by simp [hk]
    have HK:=Lib.hid hk
    clear hk
    obtain ⟨q,hq⟩:∃ x,stepRq p.rs d = x:=⟨_,rfl⟩
    obtain ⟨l,hl⟩:∃ x,stepRl p.rs d = x:=⟨_,rfl⟩
    have HQ:=Lib.hid (show stepQ p d = q by unfold stepQ; rw [if_neg (by rw [HRD.out]; simp),if_neg HNP.out,if_neg HK.out]; exact hq)
    have hlr:Kr.rightB l = true:=by rw [← hl]; exact stepRl_right HRP.out.rg
    have HLL:=Lib.hid (rightR_len hlr)
    have HL:=Lib.hid hl
    obtain ⟨y0,y1,y2,y3,y4,y5,y6,y7,y8,y9,y10,y11,y12,lt_y⟩:=blok13 hD
    have p0:w4.cell? ⟨w.heap.size,1,none⟩ = some (.slice A n c):=hP.cell 1
    have lt_p:=hP.lt
    have n0:w4.cell? ⟨bN,1,none⟩ = some (.slice A n c):=hN.cell 1
    have nf0:=hN.free 1
    have lt_n:=hN.lt
    go_wp2_with fail
    clear y0 y1 y2 y3 y4 y5 y6 y7 y8 y9 y10 y11 y12 lt_y
    clear p0 lt_p n0 nf0
    refine (pstepR_any A n c p.rs d w4 h.l h.b h.s HRP.out.rg q hq l hl).mono ?_
    rintro e w5 ⟨v,rfl,hv,hb⟩
    clear hq hl hlr
    replace h:=h.up hb
    replace hP:=hP.below hb hP.lt
    replace hD:=hD.below hb hD.lt
    replace hR:=hR.below hb hR.lt
    replace hN:=hN.below hb hN.lt
    replace hB:=hB.trans (hb.mono hs)
    replace hs:=hB.size
    clear hb
    obtain ⟨nl,hnl⟩:∃ x,l.length = x:=⟨_,rfl⟩
    rw [hnl] at hv
    have HNL:=Lib.hid hnl
    obtain ⟨A2,c2,rfl⟩:=slice_of_own hv
    have n0:w5.cell? ⟨bN,1,none⟩ = some (.slice A n c):=hN.cell 1
    have nf0:=hN.free 1
    have lt_n2:=hN.lt
    clear hnl
    go_upto_region 10 with fail
    replace hN:=hN.set_ 1 (.slice A2 nl c2)
    replace hP:=hP.far (p:=⟨bN,1,none⟩) (by show w.heap.size ≠ bN; omega) (.slice A2 nl c2)
    replace hR:=hR.far (p:=⟨bN,1,none⟩) (by show w.heap.size + 1 + 1 ≠ bN; omega) (.slice A2 nl c2)
    replace hv:=own_far hv (grown_set (g:=bN) w5 1 (.slice A2 nl c2)) (fun g hg => by injection hg with hg; omega)
    replace hB:=hB.setCell (p:=⟨bN,1,none⟩) (by show w.heap.size ≤ bN; omega) (.slice A2 nl c2)
    replace hs:=hB.size
    clear n0 nf0 lt_n2 hD h
    generalize w5.setCell ⟨bN,1,none⟩ (.slice A2 nl c2) = w6 at *
    by_cases hq0:q = 0
    ·subst hq0
     have g4:((0:Int) != 0) = false:=by simp
     have n0:w6.cell? ⟨bN,0,none⟩ = some (.slice A1 n1 c1):=hN.cell 0
     have n1':w6.cell? ⟨bN,1,none⟩ = some (.slice A2 nl c2):=hN.cell 1
     have n2:w6.cell? ⟨bN,2,none⟩ = some (.int .i64 p.clk):=hN.cell 2
     have n3:w6.cell? ⟨bN,3,none⟩ = some (.int .i64 nv):=hN.cell 3
     have lt_n3:=hN.lt
     obtain ⟨r0,r1,r2,r3,lt_x⟩:=blok4 hR
     obtain ⟨f_0,f_1,f_2,f_3⟩:=free4 hR
     have HX:=Lib.hid hR
     clear hR
     go_wp2_with fail
     have hX:=HX.out
     clear r0 r1 r2 r3 n0 n1' n2 n3
     obtain ⟨hF,hWf,hgw⟩:=ret4 (show Blok _ _ _ #[_,_,_,_] from hX) hB (show w.heap.size ≤ (w.heap.size + 1 + 1) by first | exact Nat.le_refl _ | omega) (.slice A1 n1 c1) (.slice A2 nl c2) (.int .i64 p.clk) (.int .i64 nv)
     have hlF:=hF.lt
     generalize (((w6.setCell ⟨(w.heap.size + 1 + 1),0,none⟩ (.slice A1 n1 c1)).setCell ⟨(w.heap.size + 1 + 1),1,none⟩ (.slice A2 nl c2)).setCell ⟨(w.heap.size + 1 + 1),2,none⟩ (.int .i64 p.clk)).setCell ⟨(w.heap.size + 1 + 1),3,none⟩ (.int .i64 nv) = wf at *
     obtain ⟨r0,r1,r2,r3,_⟩:=blok4 hF
     refine bodyPost_ret (v:=.tuple #[.agg #[.slice A1 n1 c1,.slice A2 nl c2,.int .i64 p.clk,.int .i64 nv],.int .i64 0]) (by simp [results,Tryz.results112,go_sem,r0,r1,r2,r3,hlF]) rfl ?_
     have hvf:=own_far hv hgw (fun g hg => by injection hg with hg; omega)
     have hpp:stepP p d = ⟨p.cs,l,p.clk,nv⟩:=by unfold stepP; rw [if_pos HQ.out,if_neg HK.out,HL.out,HNV.out]
     have hlf:=HNL.out
     have hle:=HLL.out
     refine ⟨A1,n1,c1,A2,nl,c2,by rw [hpp,HQ.out],by rw [hpp]; exact ⟨H0.out.l1,hlf,H0.out.b1,by omega,H0.out.s1.up hWf,Sl.of_own hvf⟩,hWf,fun b hbl ha => ⟨ha.1,apart_own hvf (by omega)⟩,fun _ => by rw [hpp]; exact ⟨fun hk2 => absurd hk2 HK.out,fun _ => own_down hvf (by omega)⟩⟩
    ·have g4:(q != 0) = true:=by simp [hq0]
     obtain ⟨p0,p1,p2,p3,lt_p⟩:=blok4 (show Blok _ _ _ #[.slice A1 n1 c1,.slice A n c,.int .i64 p.clk,.int .i64 p.ver] from hP)
     obtain ⟨r0,r1,r2,r3,lt_x⟩:=blok4 hR
     obtain ⟨f_0,f_1,f_2,f_3⟩:=free4 hR
     have HX:=Lib.hid hR
     clear hR
     go_wp2_with fail
     have hX:=HX.out
     clear r0 r1 r2 r3 p0 p1 p2 p3
     obtain ⟨hF,hWf,hgw⟩:=ret4 (show Blok _ _ _ #[_,_,_,_] from hX) hB (show w.heap.size ≤ (w.heap.size + 1 + 1) by first | exact Nat.le_refl _ | omega) (.slice A1 n1 c1) (.slice A n c) (.int .i64 p.clk) (.int .i64 p.ver)
     have hlF:=hF.lt
     generalize (((w6.setCell ⟨(w.heap.size + 1 + 1),0,none⟩ (.slice A1 n1 c1)).setCell ⟨(w.heap.size + 1 + 1),1,none⟩ (.slice A n c)).setCell ⟨(w.heap.size + 1 + 1),2,none⟩ (.int .i64 p.clk)).setCell ⟨(w.heap.size + 1 + 1),3,none⟩ (.int .i64 p.ver) = wf at *
     obtain ⟨r0,r1,r2,r3,_⟩:=blok4 hF
     refine bodyPost_ret (v:=.tuple #[.agg #[.slice A1 n1 c1,.slice A n c,.int .i64 p.clk,.int .i64 p.ver],.int .i64 q]) (by simp [results,Tryz.results112,go_sem,r0,r1,r2,r3,hlF]) rfl ?_
     exact StepRet.no H0.out hWf HQ.out (by first | omega | assumption) rfl
 ·have g1:(d.op == 1) = false:=by simp [hop]
  have HNP:=Lib.hid (show ¬ (d.op = 1 ∧ endD d ≤ p.clk) from fun hc => hop hc.1)
  clear hop
  have q_y0:=fun d os => cell_regrown y0 d os
  have q_y1:=fun d os => cell_regrown y1 d os
  have q_y2:=fun d os => cell_regrown y2 d os
  have q_y3:=fun d os => cell_regrown y3 d os
  have q_y4:=fun d os => cell_regrown y4 d os
  have q_y5:=fun d os => cell_regrown y5 d os
  have q_y6:=fun d os => cell_regrown y6 d os
  have q_y7:=fun d os => cell_regrown y7 d os
  have q_y8:=fun d os => cell_regrown y8 d os
  have q_y9:=fun d os => cell_regrown y9 d os
  have q_y10:=fun d os => cell_regrown y10 d os
  have q_y11:=fun d os => cell_regrown y11 d os
  have q_y12:=fun d os => cell_regrown y12 d os
  have q_p2:=fun d os => cell_regrown p2 d os
  try simp only [List.append]
  first | refine wp_region_text_below ?_ | refine wp_region_quiet_below (by kernel_rfl) (by kernel_rfl) ?_
  repeat (go_big_quiet_step ((go_at_call 179; with_reducible exact Calls.regrown_of (HEN.out _))))
  refine wpQuiet_nil ?_
  intro _ hqw
  obtain ⟨pq,hqw⟩:=hqw
  subst hqw
  clear q_y0 q_y1 q_y2 q_y3 q_y4 q_y5 q_y6 q_y7 q_y8 q_y9 q_y10 q_y11 q_y12 q_p2
  have hb:=below_regrown w1 pq.d pq.os
  clear y0 y1 y2 y3 y4 y5 y6 y7 y8 y9 y10 y11 y12 lt_y
  clear p2 lt_p g1
  replace h:=h.up hb
  replace hP:=hP.below hb hP.lt
  replace hD:=hD.below hb hD.lt
  replace hR:=hR.below hb hR.lt
  replace hB:=hB.trans (hb.mono hs)
  replace hs:=hB.size
  clear hb
  generalize grow (redrawn w1 pq.d) pq.os = w2 at *
  obtain ⟨p0,p1,p2,p3,lt_p⟩:=blok4 (show Blok _ _ _ #[.slice A1 n1 c1,.slice A n c,.int .i64 p.clk,.int .i64 p.ver] from hP)
  go_wp2_with fail
  clear p0 p1 p2 p3 lt_p
  refine (pchanged_any A1 n1 c1 A n c p.clk p.ver HRP.out.v0 HRP.out.v1 _ rfl w2).mono ?_
  rintro e w3 ⟨rfl,hb⟩
  replace h:=h.up hb
  replace hP:=hP.below hb hP.lt
  replace hD:=hD.below hb hD.lt
  replace hR:=hR.below hb hR.lt
  replace hB:=hB.trans (hb.mono hs)
  replace hs:=hB.size
  clear hb
  obtain ⟨nv,hnv⟩:∃ x,min (p.ver + 1) 1099511627776 = x:=⟨_,rfl⟩
  rw [hnv]
  have HNV:=Lib.hid hnv
  clear hnv
  go_upto_region 7 with fail
  have hnlt:w.heap.size + 1 + 1 < w3.heap.size:=hR.lt
  have hN:=Blok.new w3 25 #[.slice A1 n1 c1,.slice A n c,.int .i64 p.clk,.int .i64 nv]
  have hb:Below w3.heap.size w3 (w3.alloc (.cells #[.slice A1 n1 c1,.slice A n c,.int .i64 p.clk,.int .i64 nv] 25)):=by (repeat (first | exact Below.refl _ _ | refine Below.alloc ?_ (by first | omega | (simp; done) | (simp; omega)) _ | refine Below.setCell ?_ (by first | omega | (simp; done) | (simp; omega)) _ | refine Below.drew ?_))
  replace h:=h.up hb
  replace hP:=hP.below hb hP.lt
  replace hD:=hD.below hb hD.lt
  replace hR:=hR.below hb hR.lt
  replace hB:=hB.trans (hb.mono hs)
  replace hs:=hB.size
  clear hb
  generalize w3.alloc (.cells #[.slice A1 n1 c1,.slice A n c,.int .i64 p.clk,.int .i64 nv] 25) = w4 at *
  generalize w3.heap.size = bN at *
  by_cases hk:d.kd = 1
  ·have g3:(d.kd == 1) = true:=by simp [hk]
   have HK:=Lib.hid hk
   clear hk
   obtain ⟨q,hq⟩:∃ x,stepCq p.cs d = x:=⟨_,rfl⟩
   obtain ⟨l,hl⟩:∃ x,stepCl p.cs d = x:=⟨_,rfl⟩
   have HQ:=Lib.hid (show stepQ p d = q by unfold stepQ; rw [if_neg (by rw [HRD.out]; simp),if_neg HNP.out,if_pos HK.out]; exact hq)
   have hlr:Kc.rightC l = true:=by rw [← hl]; exact stepCl_right HRP.out.co
   have HLL:=Lib.hid (rightC_len hlr)
   have HL:=Lib.hid hl
   obtain ⟨y0,y1,y2,y3,y4,y5,y6,y7,y8,y9,y10,y11,y12,lt_y⟩:=blok13 hD
   have p0:w4.cell? ⟨w.heap.size,0,none⟩ = some (.slice A1 n1 c1):=hP.cell 0
   have lt_p:=hP.lt
   have n0:w4.cell? ⟨bN,0,none⟩ = some (.slice A1 n1 c1):=hN.cell 0
   have nf0:=hN.free 0
   have lt_n:=hN.lt
   go_wp2_with fail
   clear y0 y1 y2 y3 y4 y5 y6 y7 y8 y9 y10 y11 y12 lt_y
   clear p0 lt_p n0 nf0
   refine (pstepC_any A1 n1 c1 p.cs d w4 h.l1 h.b1 h.s1 HRP.out.co q hq l hl).mono ?_
   rintro e w5 ⟨v,rfl,hv,hb⟩
   clear hq hl hlr
   replace h:=h.up hb
   replace hP:=hP.below hb hP.lt
   replace hD:=hD.below hb hD.lt
   replace hR:=hR.below hb hR.lt
   replace hN:=hN.below hb hN.lt
   replace hB:=hB.trans (hb.mono hs)
   replace hs:=hB.size
   clear hb
   obtain ⟨nl,hnl⟩:∃ x,l.length = x:=⟨_,rfl⟩
   rw [hnl] at hv
   have HNL:=Lib.hid hnl
   obtain ⟨A2,c2,rfl⟩:=slice_of_own hv
   have n0:w5.cell? ⟨bN,0,none⟩ = some (.slice A1 n1 c1):=hN.cell 0
   have nf0:=hN.free 0
   have lt_n2:=hN.lt
   clear hnl
   go_upto_region 10 with fail
   replace hN:=hN.set_ 0 (.slice A2 nl c2)
   replace hP:=hP.far (p:=⟨bN,0,none⟩) (by show w.heap.size ≠ bN; omega) (.slice A2 nl c2)
   replace hR:=hR.far (p:=⟨bN,0,none⟩) (by show w.heap.size + 1 + 1 ≠ bN; omega) (.slice A2 nl c2)
   replace hv:=own_far hv (grown_set (g:=bN) w5 0 (.slice A2 nl c2)) (fun g hg => by injection hg with hg; omega)
   replace hB:=hB.setCell (p:=⟨bN,0,none⟩) (by show w.heap.size ≤ bN; omega) (.slice A2 nl c2)
   replace hs:=hB.size
   clear n0 nf0 lt_n2 hD h
   generalize w5.setCell ⟨bN,0,none⟩ (.slice A2 nl c2) = w6 at *
   by_cases hq0:q = 0
   ·subst hq0
    have g4:((0:Int) != 0) = false:=by simp
    have n0:w6.cell? ⟨bN,0,none⟩ = some (.slice A2 nl c2):=hN.cell 0
    have n1':w6.cell? ⟨bN,1,none⟩ = some (.slice A n c):=hN.cell 1
    have n2:w6.cell? ⟨bN,2,none⟩ = some (.int .i64 p.clk):=hN.cell 2
    have n3:w6.cell? ⟨bN,3,none⟩ = some (.int .i64 nv):=hN.cell 3
    have lt_n3:=hN.lt
    obtain ⟨r0,r1,r2,r3,lt_x⟩:=blok4 hR
    obtain ⟨f_0,f_1,f_2,f_3⟩:=free4 hR
    have HX:=Lib.hid hR
    clear hR
    go_wp2_with fail
    have hX:=HX.out
    clear r0 r1 r2 r3 n0 n1' n2 n3
    obtain ⟨hF,hWf,hgw⟩:=ret4 (show Blok _ _ _ #[_,_,_,_] from hX) hB (show w.heap.size ≤ (w.heap.size + 1 + 1) by first | exact Nat.le_refl _ | omega) (.slice A2 nl c2) (.slice A n c) (.int .i64 p.clk) (.int .i64 nv)
    have hlF:=hF.lt
    generalize (((w6.setCell ⟨(w.heap.size + 1 + 1),0,none⟩ (.slice A2 nl c2)).setCell ⟨(w.heap.size + 1 + 1),1,none⟩ (.slice A n c)).setCell ⟨(w.heap.size + 1 + 1),2,none⟩ (.int .i64 p.clk)).setCell ⟨(w.heap.size + 1 + 1),3,none⟩ (.int .i64 nv) = wf at *
    obtain ⟨r0,r1,r2,r3,_⟩:=blok4 hF
    refine bodyPost_ret (v:=.tuple #[.agg #[.slice A2 nl c2,.slice A n c,.int .i64 p.clk,.int .i64 nv],.int .i64 0]) (by simp [results,Tryz.results112,go_sem,r0,r1,r2,r3,hlF]) rfl ?_
    have hvf:=own_far hv hgw (fun g hg => by injection hg with hg; omega)
    have hpp:stepP p d = ⟨l,p.rs,p.clk,nv⟩:=by unfold stepP; rw [if_pos HQ.out,if_pos HK.out,HL.out,HNV.out]
    have hlf:=HNL.out
    have hle:=HLL.out
    refine ⟨A2,nl,c2,A,n,c,by rw [hpp,HQ.out],by rw [hpp]; exact ⟨hlf,H0.out.l,by omega,H0.out.b,Sl.of_own hvf,H0.out.s.up hWf⟩,hWf,fun b hbl ha => ⟨apart_own hvf (by omega),ha.2⟩,fun _ => by rw [hpp]; exact ⟨fun _ => own_down hvf (by omega),fun hk2 => absurd HK.out hk2⟩⟩
   ·have g4:(q != 0) = true:=by simp [hq0]
    obtain ⟨p0,p1,p2,p3,lt_p⟩:=blok4 (show Blok _ _ _ #[.slice A1 n1 c1,.slice A n c,.int .i64 p.clk,.int .i64 p.ver] from hP)
    obtain ⟨r0,r1,r2,r3,lt_x⟩:=blok4 hR
    obtain ⟨f_0,f_1,f_2,f_3⟩:=free4 hR
    have HX:=Lib.hid hR
    clear hR
    go_wp2_with fail
    have hX:=HX.out
    clear r0 r1 r2 r3 p0 p1 p2 p3
    obtain ⟨hF,hWf,hgw⟩:=ret4 (show Blok _ _ _ #[_,_,_,_] from hX) hB (show w.heap.size ≤ (w.heap.size + 1 + 1) by first | exact Nat.le_refl _ | omega) (.slice A1 n1 c1) (.slice A n c) (.int .i64 p.clk) (.int .i64 p.ver)
    have hlF:=hF.lt
    generalize (((w6.setCell ⟨(w.heap.size + 1 + 1),0,none⟩ (.slice A1 n1 c1)).setCell ⟨(w.heap.size + 1 + 1),1,none⟩ (.slice A n c)).setCell ⟨(w.heap.size + 1 + 1),2,none⟩ (.int .i64 p.clk)).setCell ⟨(w.heap.size + 1 + 1),3,none⟩ (.int .i64 p.ver) = wf at *
    obtain ⟨r0,r1,r2,r3,_⟩:=blok4 hF
    refine bodyPost_ret (v:=.tuple #[.agg #[.slice A1 n1 c1,.slice A n c,.int .i64 p.clk,.int .i64 p.ver],.int .i64 q]) (by simp [results,Tryz.results112,go_sem,r0,r1,r2,r3,hlF]) rfl ?_
    exact StepRet.no H0.out hWf HQ.out (by first | omega | assumption) rfl
  ·have g3:(d.kd == 1) = false:=by simp [hk]
   have HK:=Lib.hid hk
   clear hk
   obtain ⟨q,hq⟩:∃ x,stepRq p.rs d = x:=⟨_,rfl⟩
   obtain ⟨l,hl⟩:∃ x,stepRl p.rs d = x:=⟨_,rfl⟩
   have HQ:=Lib.hid (show stepQ p d = q by unfold stepQ; rw [if_neg (by rw [HRD.out]; simp),if_neg HNP.out,if_neg HK.out]; exact hq)
   have hlr:Kr.rightB l = true:=by rw [← hl]; exact stepRl_right HRP.out.rg
   have HLL:=Lib.hid (rightR_len hlr)
   have HL:=Lib.hid hl
   obtain ⟨y0,y1,y2,y3,y4,y5,y6,y7,y8,y9,y10,y11,y12,lt_y⟩:=blok13 hD
   have p0:w4.cell? ⟨w.heap.size,1,none⟩ = some (.slice A n c):=hP.cell 1
   have lt_p:=hP.lt
   have n0:w4.cell? ⟨bN,1,none⟩ = some (.slice A n c):=hN.cell 1
   have nf0:=hN.free 1
   have lt_n:=hN.lt
   go_wp2_with fail
   clear y0 y1 y2 y3 y4 y5 y6 y7 y8 y9 y10 y11 y12 lt_y
   clear p0 lt_p n0 nf0
   refine (pstepR_any A n c p.rs d w4 h.l h.b h.s HRP.out.rg q hq l hl).mono ?_
   rintro e w5 ⟨v,rfl,hv,hb⟩
   clear hq hl hlr
   replace h:=h.up hb
   replace hP:=hP.below hb hP.lt
   replace hD:=hD.below hb hD.lt
   replace hR:=hR.below hb hR.lt
   replace hN:=hN.below hb hN.lt
   replace hB:=hB.trans (hb.mono hs)
   replace hs:=hB.size
   clear hb
   obtain ⟨nl,hnl⟩:∃ x,l.length = x:=⟨_,rfl⟩
   rw [hnl] at hv
   have HNL:=Lib.hid hnl
   obtain ⟨A2,c2,rfl⟩:=slice_of_own hv
   have n0:w5.cell? ⟨bN,1,none⟩ = some (.slice A n c):=hN.cell 1
   have nf0:=hN.free 1
   have lt_n2:=hN.lt
   clear hnl
   go_upto_region 10 with fail
   replace hN:=hN.set_ 1 (.slice A2 nl c2)
   replace hP:=hP.far (p:=⟨bN,1,none⟩) (by show w.heap.size ≠ bN; omega) (.slice A2 nl c2)
   replace hR:=hR.far (p:=⟨bN,1,none⟩) (by show w.heap.size + 1 + 1 ≠ bN; omega) (.slice A2 nl c2)
   replace hv:=own_far hv (grown_set (g:=bN) w5 1 (.slice A2 nl c2)) (fun g hg => by injection hg with hg; omega)
   replace hB:=hB.setCell (p:=⟨bN,1,none⟩) (by show w.heap.size ≤ bN; omega) (.slice A2 nl c2)
   replace hs:=hB.size
   clear n0 nf0 lt_n2 hD h
   generalize w5.setCell ⟨bN,1,none⟩ (.slice A2 nl c2) = w6 at *
   by_cases hq0:q = 0
   ·subst hq0
    have g4:((0:Int) != 0) = false:=by simp
    have n0:w6.cell? ⟨bN,0,none⟩ = some (.slice A1 n1 c1):=hN.cell 0
    have n1':w6.cell? ⟨bN,1,none⟩ = some (.slice A2 nl c2):=hN.cell 1
    have n2:w6.cell? ⟨bN,2,none⟩ = some (.int .i64 p.clk):=hN.cell 2
    have n3:w6.cell? ⟨bN,3,none⟩ = some (.int .i64 nv):=hN.cell 3
    have lt_n3:=hN.lt
    obtain ⟨r0,r1,r2,r3,lt_x⟩:=blok4 hR
    obtain ⟨f_0,f_1,f_2,f_3⟩:=free4 hR
    have HX:=Lib.hid hR
    clear hR
    go_wp2_with fail
    have hX:=HX.out
    clear r0 r1 r2 r3 n0 n1' n2 n3
    obtain ⟨hF,hWf,hgw⟩:=ret4 (show Blok _ _ _ #[_,_,_,_] from hX) hB (show w.heap.size ≤ (w.heap.size + 1 + 1) by first | exact Nat.le_refl _ | omega) (.slice A1 n1 c1) (.slice A2 nl c2) (.int .i64 p.clk) (.int .i64 nv)
    have hlF:=hF.lt
    generalize (((w6.setCell ⟨(w.heap.size + 1 + 1),0,none⟩ (.slice A1 n1 c1)).setCell ⟨(w.heap.size + 1 + 1),1,none⟩ (.slice A2 nl c2)).setCell ⟨(w.heap.size + 1 + 1),2,none⟩ (.int .i64 p.clk)).setCell ⟨(w.heap.size + 1 + 1),3,none⟩ (.int .i64 nv) = wf at *
    obtain ⟨r0,r1,r2,r3,_⟩:=blok4 hF
    refine bodyPost_ret (v:=.tuple #[.agg #[.slice A1 n1 c1,.slice A2 nl c2,.int .i64 p.clk,.int .i64 nv],.int .i64 0]) (by simp [results,Tryz.results112,go_sem,r0,r1,r2,r3,hlF]) rfl ?_
    have hvf:=own_far hv hgw (fun g hg => by injection hg with hg; omega)
    have hpp:stepP p d = ⟨p.cs,l,p.clk,nv⟩:=by unfold stepP; rw [if_pos HQ.out,if_neg HK.out,HL.out,HNV.out]
    have hlf:=HNL.out
    have hle:=HLL.out
    refine ⟨A1,n1,c1,A2,nl,c2,by rw [hpp,HQ.out],by rw [hpp]; exact ⟨H0.out.l1,hlf,H0.out.b1,by omega,H0.out.s1.up hWf,Sl.of_own hvf⟩,hWf,fun b hbl ha => ⟨ha.1,apart_own hvf (by omega)⟩,fun _ => by rw [hpp]; exact ⟨fun hk2 => absurd hk2 HK.out,fun _ => own_down hvf (by omega)⟩⟩
   ·have g4:(q != 0) = true:=by simp [hq0]
    obtain ⟨p0,p1,p2,p3,lt_p⟩:=blok4 (show Blok _ _ _ #[.slice A1 n1 c1,.slice A n c,.int .i64 p.clk,.int .i64 p.ver] from hP)
    obtain ⟨r0,r1,r2,r3,lt_x⟩:=blok4 hR
    obtain ⟨f_0,f_1,f_2,f_3⟩:=free4 hR
    have HX:=Lib.hid hR
    clear hR
    go_wp2_with fail
    have hX:=HX.out
    clear r0 r1 r2 r3 p0 p1 p2 p3
    obtain ⟨hF,hWf,hgw⟩:=ret4 (show Blok _ _ _ #[_,_,_,_] from hX) hB (show w.heap.size ≤ (w.heap.size + 1 + 1) by first | exact Nat.le_refl _ | omega) (.slice A1 n1 c1) (.slice A n c) (.int .i64 p.clk) (.int .i64 p.ver)
    have hlF:=hF.lt
    generalize (((w6.setCell ⟨(w.heap.size + 1 + 1),0,none⟩ (.slice A1 n1 c1)).setCell ⟨(w.heap.size + 1 + 1),1,none⟩ (.slice A n c)).setCell ⟨(w.heap.size + 1 + 1),2,none⟩ (.int .i64 p.clk)).setCell ⟨(w.heap.size + 1 + 1),3,none⟩ (.int .i64 p.ver) = wf at *
    obtain ⟨r0,r1,r2,r3,_⟩:=blok4 hF
    refine bodyPost_ret (v:=.tuple #[.agg #[.slice A1 n1 c1,.slice A n c,.int .i64 p.clk,.int .i64 p.ver],.int .i64 q]) (by simp [results,Tryz.results112,go_sem,r0,r1,r2,r3,hlF]) rfl ?_
    exact StepRet.no H0.out hWf HQ.out (by first | omega | assumption) rfl
end Go.Proofs.YtjldgcebadojiaaGreatDoor
