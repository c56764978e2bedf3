/- Contract of plan.Apply. It makes new memory alone. -/
import Derived.Test.YtjldgcebadojiaaGreatDoorPlan4
namespace Go.Proofs.YtjldgcebadojiaaGreatDoor
open Go.ChangeShapes Go.WideShapes Go.ChangeAt Go.RowKit Go.Sort
set_option linter.unusedSimpArgs false
set_option linter.unusedVariables false
def ApplyRet (p:Pl) (d:Dr) (w:World) (e:Ending) (w':World):Prop:=
 ∃ A2 n2 c2 A3 n3 c3,e = .returned (.tuple #[.agg #[.slice A2 n2 c2,.slice A3 n3 c3,.int .i64 (stepP p d).clk,.int .i64 (stepP p d).ver],.int .i64 (stepQ p d)]) ∧ PlOwn w' w.heap.size A2 n2 c2 A3 n3 c3 (stepP p d) ∧ Below w.heap.size w w'
theorem stepP_C {p:Pl} {d:Dr} (hq:stepQ p d = 0) (hk:d.kd = 1):(stepP p d).rs = p.rs ∧ (stepP p d).clk = p.clk:=by unfold stepP; rw [if_pos hq,if_pos hk]; exact ⟨rfl,rfl⟩
theorem stepP_R {p:Pl} {d:Dr} (hq:stepQ p d = 0) (hk:d.kd ≠ 1):(stepP p d).cs = p.cs ∧ (stepP p d).clk = p.clk:=by unfold stepP; rw [if_pos hq,if_neg hk]; exact ⟨rfl,rfl⟩
theorem own_other {w w':World} {base b:Nat} {e:TypeId} {size n:Nat} {v:Value} {xs:List Value} (h:w.ownsRow base e size v n xs) (hg:w.grownBy w' (some b)) (hne:∀ g,v.ownBlock = some g → g ≠ b):w'.ownsRow base e size v n xs:=
 h.kept hg (by
  cases hq:v.ownBlock with
  | none => exact .inl rfl
  | some q => exact .inr (fun e => hne q hq (by injection e)))
set_option maxHeartbeats 16000000 in
set_option maxRecDepth 100000 in
theorem papply_any (A1:Option Addr) (n1 c1:Nat) (A:Option Addr) (n c:Nat) (p:Pl) (d:Dr) (w:World) (hw0:(Lit.int .i64 d.op).wf = true) (hw1:(Lit.int .i64 d.kd).wf = true) (h:PlAt w A1 n1 c1 A n c p) (hr:p.right = true) :
  Calls Tryz.prog 65 #[.agg #[.slice A1 n1 c1,.slice A n c,.int .i64 p.clk,.int .i64 p.ver],.agg #[.int .i64 d.op,.int .i64 d.kd,.int .i64 d.id,.int .i64 d.fr,.int .i64 d.tn,.int .i64 d.st,.int .i64 d.en,.int .i64 d.rt,.int .i64 d.rf,.int .i64 d.rn,.int .i64 d.rs,.int .i64 d.re,.int .i64 d.ro]] w (ApplyRet p d w):=by
 have hB:Below w.heap.size w (((w.alloc (.cells #[.slice A1 n1 c1,.slice A n c,.int .i64 p.clk,.int .i64 p.ver] 25)).alloc (.cells #[.int .i64 d.op,.int .i64 d.kd,.int .i64 d.id,.int .i64 d.fr,.int .i64 d.tn,.int .i64 d.st,.int .i64 d.en,.int .i64 d.rt,.int .i64 d.rf,.int .i64 d.rn,.int .i64 d.rs,.int .i64 d.re,.int .i64 d.ro] 38)).alloc (.cells #[.slice none 0 0,.slice none 0 0,.int .i64 0,.int .i64 0] 25)):=by (repeat (first | exact Below.refl _ _ | refine Below.alloc ?_ (by first | omega | (simp; done) | (simp; omega)) _ | refine Below.setCell ?_ (by first | omega | (simp; done) | (simp; omega)) _ | refine Below.drew ?_))
 have hP:=((Blok.new w 25 #[.slice A1 n1 c1,.slice A n c,.int .i64 p.clk,.int .i64 p.ver]).alloc (.cells #[.int .i64 d.op,.int .i64 d.kd,.int .i64 d.id,.int .i64 d.fr,.int .i64 d.tn,.int .i64 d.st,.int .i64 d.en,.int .i64 d.rt,.int .i64 d.rf,.int .i64 d.rn,.int .i64 d.rs,.int .i64 d.re,.int .i64 d.ro] 38)).alloc (.cells #[.slice none 0 0,.slice none 0 0,.int .i64 0,.int .i64 0] 25)
 have hD:=(Blok.new (w.alloc (.cells #[.slice A1 n1 c1,.slice A n c,.int .i64 p.clk,.int .i64 p.ver] 25)) 38 #[.int .i64 d.op,.int .i64 d.kd,.int .i64 d.id,.int .i64 d.fr,.int .i64 d.tn,.int .i64 d.st,.int .i64 d.en,.int .i64 d.rt,.int .i64 d.rf,.int .i64 d.rn,.int .i64 d.rs,.int .i64 d.re,.int .i64 d.ro]).alloc (.cells #[.slice none 0 0,.slice none 0 0,.int .i64 0,.int .i64 0] 25)
 have hR:=Blok.new ((w.alloc (.cells #[.slice A1 n1 c1,.slice A n c,.int .i64 p.clk,.int .i64 p.ver] 25)).alloc (.cells #[.int .i64 d.op,.int .i64 d.kd,.int .i64 d.id,.int .i64 d.fr,.int .i64 d.tn,.int .i64 d.st,.int .i64 d.en,.int .i64 d.rt,.int .i64 d.rf,.int .i64 d.rn,.int .i64 d.rs,.int .i64 d.re,.int .i64 d.ro] 38)) 25 #[.slice none 0 0,.slice none 0 0,.int .i64 0,.int .i64 0]
 simp only [World.size_alloc] at hD hR
 replace h:=h.up hB
 have hs:=hB.size
 have hBW:w.heap.size + 1 + 1 < (((w.alloc (.cells #[.slice A1 n1 c1,.slice A n c,.int .i64 p.clk,.int .i64 p.ver] 25)).alloc (.cells #[.int .i64 d.op,.int .i64 d.kd,.int .i64 d.id,.int .i64 d.fr,.int .i64 d.tn,.int .i64 d.st,.int .i64 d.en,.int .i64 d.rt,.int .i64 d.rf,.int .i64 d.rn,.int .i64 d.rs,.int .i64 d.re,.int .i64 d.ro] 38)).alloc (.cells #[.slice none 0 0,.slice none 0 0,.int .i64 0,.int .i64 0] 25)).heap.size:=hR.lt
 go_enter Tryz.func65,Tryz.ntmps65
 go_upto_region 1 with fail
 generalize ((w.alloc (.cells #[.slice A1 n1 c1,.slice A n c,.int .i64 p.clk,.int .i64 p.ver] 25)).alloc (.cells #[.int .i64 d.op,.int .i64 d.kd,.int .i64 d.id,.int .i64 d.fr,.int .i64 d.tn,.int .i64 d.st,.int .i64 d.en,.int .i64 d.rt,.int .i64 d.rf,.int .i64 d.rn,.int .i64 d.rs,.int .i64 d.re,.int .i64 d.ro] 38)).alloc (.cells #[.slice none 0 0,.slice none 0 0,.int .i64 0,.int .i64 0] 25) = w0 at *
 obtain ⟨p0,p1,p2,p3,lt_p⟩:=blok4 (show Blok _ _ _ #[.slice A1 n1 c1,.slice A n c,.int .i64 p.clk,.int .i64 p.ver] from hP)
 obtain ⟨y0,y1,y2,y3,y4,y5,y6,y7,y8,y9,y10,y11,y12,lt_y⟩:=blok13 hD
 go_wp2_with fail
 clear p0 p1 p2 p3 lt_p
 clear y0 y1 y2 y3 y4 y5 y6 y7 y8 y9 y10 y11 y12 lt_y
 refine (pstep_any A1 n1 c1 A n c p d w0 hw0 hw1 h hr).mono ?_
 rintro e w1 ⟨A2,n2,c2,A3,n3,c3,rfl,h2,hb,_,hown⟩
 replace h:=h.up hb
 replace hP:=hP.below hb hP.lt
 replace hD:=hD.below hb hD.lt
 replace hR:=hR.below hb hR.lt
 replace hB:=hB.trans (hb.mono hs)
 replace hs:=hB.size
 clear hb
 obtain ⟨q,hq⟩:∃ x,stepQ p d = x:=⟨_,rfl⟩
 obtain ⟨pp,hpp⟩:∃ x,stepP p d = x:=⟨_,rfl⟩
 rw [hq] at hown
 rw [hpp] at hown h2
 rw [hq,hpp]
 have HQ:=Lib.hid hq
 have HPP:=Lib.hid hpp
 have HOW:=Lib.hid hown
 clear hq hpp hown
 go_upto_region 3 with fail
 have hN:=Blok.new w1 25 #[.slice A2 n2 c2,.slice A3 n3 c3,.int .i64 pp.clk,.int .i64 pp.ver]
 have hb:Below w1.heap.size w1 (w1.alloc (.cells #[.slice A2 n2 c2,.slice A3 n3 c3,.int .i64 pp.clk,.int .i64 pp.ver] 25)):=by (repeat (first | exact Below.refl _ _ | refine Below.alloc ?_ (by first | omega | (simp; done) | (simp; omega)) _ | refine Below.setCell ?_ (by first | omega | (simp; done) | (simp; omega)) _ | refine Below.drew ?_))
 have hnl:w.heap.size + 1 + 1 < w1.heap.size:=hR.lt
 have hb2:=hb
 replace h:=h.up hb
 replace hP:=hP.below hb hP.lt
 replace hD:=hD.below hb hD.lt
 replace hR:=hR.below hb hR.lt
 replace hB:=hB.trans (hb.mono hs)
 replace hs:=hB.size
 clear hb
 generalize w1.alloc (.cells #[.slice A2 n2 c2,.slice A3 n3 c3,.int .i64 pp.clk,.int .i64 pp.ver] 25) = w2 at *
 obtain ⟨bN,hbN⟩:∃ x,w1.heap.size = x:=⟨_,rfl⟩
 rw [hbN] at hN hnl
 rw [hbN]
 by_cases hq0:q = 0
 ·subst hq0
  have g1:((0:Int) != 0) = false:=by simp
  by_cases hk:d.kd = 1
  ·have g3:(d.kd == 1) = true:=by simp [hk]
   obtain ⟨hps,hpc⟩:=stepP_C (by rw [HQ.out]) hk
   rw [HPP.out] at hps
   have HPS:=Lib.hid hps
   clear hpc hps
   have hoc:=(HOW.out rfl).1 hk
   have hgb:∀ g,(Value.slice A2 n2 c2).ownBlock = some g → g < bN:=fun g hg => by rw [← hbN]; exact (hoc.lt g hg).2
   replace hoc:=own_below hoc hb2
   clear hb2 HOW hbN hk
   have hx1:=h2.l1
   have hx2:=h2.b1
   have hbNl:bN < w2.heap.size:=hN.lt
   obtain ⟨y0,y1,y2,y3,y4,y5,y6,y7,y8,y9,y10,y11,y12,lt_y⟩:=blok13 hD
   have p0:w2.cell? ⟨w.heap.size,1,none⟩ = some (.slice A n c):=hP.cell 1
   have lt_p:=hP.lt
   obtain ⟨n_0,n_1,n_2,n_3,lt_n_⟩:=blok4 (show Blok _ _ _ #[.slice A2 n2 c2,.slice A3 n3 c3,.int .i64 pp.clk,.int .i64 pp.ver] from hN)
   obtain ⟨nf_0,nf_1,nf_2,nf_3⟩:=free4 hN
   go_wp2_with fail
   clear y0 y1 y2 y3 y4 y5 y6 y7 y8 y9 y10 y11 y12 lt_y
   clear n_0 n_1 n_2 n_3 nf_0 nf_1 nf_2 nf_3 lt_n_
   clear p0 lt_p h2
   refine (cloneRg A n c p.rs w2 h.l (by have:=h.b; omega) h.s).mono ?_
   rintro e w3 ⟨v,rfl,ho,hb⟩
   replace h:=h.up hb
   replace hP:=hP.below hb hP.lt
   replace hD:=hD.below hb hD.lt
   replace hR:=hR.below hb hR.lt
   replace hN:=hN.below hb hN.lt
   replace hoc:=own_below hoc hb
   replace hB:=hB.trans (hb.mono hs)
   replace hs:=hB.size
   clear hb
   obtain ⟨A5,c5,rfl⟩:=slice_of_own ho
   obtain ⟨n_0,n_1,n_2,n_3,lt_n_⟩:=blok4 (show Blok _ _ _ #[.slice A2 n2 c2,.slice A3 n3 c3,.int .i64 pp.clk,.int .i64 pp.ver] from hN)
   obtain ⟨nf_0,nf_1,nf_2,nf_3⟩:=free4 hN
   go_upto_region 7 with fail
   clear n_0 n_1 n_2 n_3 nf_0 nf_1 nf_2 nf_3 lt_n_
   replace hN:=hN.set_ 1 (.slice A5 n c5)
   replace hR:=hR.far (p:=⟨bN,1,none⟩) (by show w.heap.size + 1 + 1 ≠ bN; omega) (.slice A5 n c5)
   replace ho:=own_far ho (grown_set (g:=bN) (w3) 1 (.slice A5 n c5)) (fun g hg => by injection hg with hg; omega)
   replace hoc:=own_other hoc (grown_set (g:=bN) (w3) 1 (.slice A5 n c5)) (fun g hg => Nat.ne_of_lt (hgb g hg))
   replace hB:=hB.setCell (p:=⟨bN,1,none⟩) (by show w.heap.size ≤ bN; omega) (.slice A5 n c5)
   replace hs:=hB.size
   generalize (w3).setCell ⟨bN,1,none⟩ (.slice A5 n c5) = w4 at *
   obtain ⟨n_0,n_1,n_2,n_3,lt_n_⟩:=blok4 (show Blok _ _ _ #[.slice A2 n2 c2,.slice A5 n c5,.int .i64 pp.clk,.int .i64 pp.ver] from hN)
   obtain ⟨nf_0,nf_1,nf_2,nf_3⟩:=free4 hN
   obtain ⟨r0,r1,r2,r3,lt_x⟩:=blok4 hR
   obtain ⟨f_0,f_1,f_2,f_3⟩:=free4 hR
   have HX:=Lib.hid hR
   clear hR
   have hh:=h.l
   have hhb:=h.b
   clear h
   go_wp2_with fail
   have hX:=HX.out
   clear n_0 n_1 n_2 n_3 nf_0 nf_1 nf_2 nf_3 lt_n_
   clear r0 r1 r2 r3
   obtain ⟨hF,hWf,hgw⟩:=ret4 (show Blok _ _ _ #[_,_,_,_] from hX) hB (show w.heap.size ≤ (w.heap.size + 1 + 1) by first | exact Nat.le_refl _ | omega) (.slice A2 n2 c2) (.slice A5 n c5) (.int .i64 pp.clk) (.int .i64 pp.ver)
   have hlF:=hF.lt
   generalize (((w4.setCell ⟨(w.heap.size + 1 + 1),0,none⟩ (.slice A2 n2 c2)).setCell ⟨(w.heap.size + 1 + 1),1,none⟩ (.slice A5 n c5)).setCell ⟨(w.heap.size + 1 + 1),2,none⟩ (.int .i64 pp.clk)).setCell ⟨(w.heap.size + 1 + 1),3,none⟩ (.int .i64 pp.ver) = wf at *
   obtain ⟨r0,r1,r2,r3,_⟩:=blok4 hF
   refine bodyPost_ret (v:=.tuple #[.agg #[.slice A2 n2 c2,.slice A5 n c5,.int .i64 pp.clk,.int .i64 pp.ver],.int .i64 0]) (by simp [results,Tryz.results65,go_sem,r0,r1,r2,r3,hlF]) rfl ?_
   have hof:=own_far ho hgw (fun g hg => by injection hg with hg; omega)
   have hocf:=own_far hoc hgw (fun g hg => by injection hg with hg; omega)
   refine ⟨A2,n2,c2,A5,n,c5,by rw [HPP.out,HQ.out],by rw [HPP.out]; exact ⟨hx1,by rw [HPS.out]; exact hh,hx2,hhb,own_down hocf (by omega),by rw [HPS.out]; exact own_down hof (by omega)⟩,hWf⟩
  ·have g3:(d.kd == 1) = false:=by simp [hk]
   obtain ⟨hps,hpc⟩:=stepP_R (by rw [HQ.out]) hk
   rw [HPP.out] at hps
   have HPS:=Lib.hid hps
   clear hpc hps
   have hoc:=(HOW.out rfl).2 hk
   have hgb:∀ g,(Value.slice A3 n3 c3).ownBlock = some g → g < bN:=fun g hg => by rw [← hbN]; exact (hoc.lt g hg).2
   replace hoc:=own_below hoc hb2
   clear hb2 HOW hbN hk
   have hx1:=h2.l
   have hx2:=h2.b
   have hbNl:bN < w2.heap.size:=hN.lt
   obtain ⟨y0,y1,y2,y3,y4,y5,y6,y7,y8,y9,y10,y11,y12,lt_y⟩:=blok13 hD
   have p0:w2.cell? ⟨w.heap.size,0,none⟩ = some (.slice A1 n1 c1):=hP.cell 0
   have lt_p:=hP.lt
   obtain ⟨n_0,n_1,n_2,n_3,lt_n_⟩:=blok4 (show Blok _ _ _ #[.slice A2 n2 c2,.slice A3 n3 c3,.int .i64 pp.clk,.int .i64 pp.ver] from hN)
   obtain ⟨nf_0,nf_1,nf_2,nf_3⟩:=free4 hN
   go_wp2_with fail
   clear y0 y1 y2 y3 y4 y5 y6 y7 y8 y9 y10 y11 y12 lt_y
   clear n_0 n_1 n_2 n_3 nf_0 nf_1 nf_2 nf_3 lt_n_
   clear p0 lt_p h2
   refine (cloneCo A1 n1 c1 p.cs w2 h.l1 (by have:=h.b1; omega) h.s1).mono ?_
   rintro e w3 ⟨v,rfl,ho,hb⟩
   replace h:=h.up hb
   replace hP:=hP.below hb hP.lt
   replace hD:=hD.below hb hD.lt
   replace hR:=hR.below hb hR.lt
   replace hN:=hN.below hb hN.lt
   replace hoc:=own_below hoc hb
   replace hB:=hB.trans (hb.mono hs)
   replace hs:=hB.size
   clear hb
   obtain ⟨A5,c5,rfl⟩:=slice_of_own ho
   obtain ⟨n_0,n_1,n_2,n_3,lt_n_⟩:=blok4 (show Blok _ _ _ #[.slice A2 n2 c2,.slice A3 n3 c3,.int .i64 pp.clk,.int .i64 pp.ver] from hN)
   obtain ⟨nf_0,nf_1,nf_2,nf_3⟩:=free4 hN
   go_upto_region 7 with fail
   clear n_0 n_1 n_2 n_3 nf_0 nf_1 nf_2 nf_3 lt_n_
   replace hN:=hN.set_ 0 (.slice A5 n1 c5)
   replace hR:=hR.far (p:=⟨bN,0,none⟩) (by show w.heap.size + 1 + 1 ≠ bN; omega) (.slice A5 n1 c5)
   replace ho:=own_far ho (grown_set (g:=bN) (w3) 0 (.slice A5 n1 c5)) (fun g hg => by injection hg with hg; omega)
   replace hoc:=own_other hoc (grown_set (g:=bN) (w3) 0 (.slice A5 n1 c5)) (fun g hg => Nat.ne_of_lt (hgb g hg))
   replace hB:=hB.setCell (p:=⟨bN,0,none⟩) (by show w.heap.size ≤ bN; omega) (.slice A5 n1 c5)
   replace hs:=hB.size
   generalize (w3).setCell ⟨bN,0,none⟩ (.slice A5 n1 c5) = w4 at *
   obtain ⟨n_0,n_1,n_2,n_3,lt_n_⟩:=blok4 (show Blok _ _ _ #[.slice A5 n1 c5,.slice A3 n3 c3,.int .i64 pp.clk,.int .i64 pp.ver] from hN)
   obtain ⟨nf_0,nf_1,nf_2,nf_3⟩:=free4 hN
   obtain ⟨r0,r1,r2,r3,lt_x⟩:=blok4 hR
   obtain ⟨f_0,f_1,f_2,f_3⟩:=free4 hR
   have HX:=Lib.hid hR
   clear hR
   have hh:=h.l1
   have hhb:=h.b1
   clear h
   go_wp2_with fail
   have hX:=HX.out
   clear n_0 n_1 n_2 n_3 nf_0 nf_1 nf_2 nf_3 lt_n_
   clear r0 r1 r2 r3
   obtain ⟨hF,hWf,hgw⟩:=ret4 (show Blok _ _ _ #[_,_,_,_] from hX) hB (show w.heap.size ≤ (w.heap.size + 1 + 1) by first | exact Nat.le_refl _ | omega) (.slice A5 n1 c5) (.slice A3 n3 c3) (.int .i64 pp.clk) (.int .i64 pp.ver)
   have hlF:=hF.lt
   generalize (((w4.setCell ⟨(w.heap.size + 1 + 1),0,none⟩ (.slice A5 n1 c5)).setCell ⟨(w.heap.size + 1 + 1),1,none⟩ (.slice A3 n3 c3)).setCell ⟨(w.heap.size + 1 + 1),2,none⟩ (.int .i64 pp.clk)).setCell ⟨(w.heap.size + 1 + 1),3,none⟩ (.int .i64 pp.ver) = wf at *
   obtain ⟨r0,r1,r2,r3,_⟩:=blok4 hF
   refine bodyPost_ret (v:=.tuple #[.agg #[.slice A5 n1 c5,.slice A3 n3 c3,.int .i64 pp.clk,.int .i64 pp.ver],.int .i64 0]) (by simp [results,Tryz.results65,go_sem,r0,r1,r2,r3,hlF]) rfl ?_
   have hof:=own_far ho hgw (fun g hg => by injection hg with hg; omega)
   have hocf:=own_far hoc hgw (fun g hg => by injection hg with hg; omega)
   refine ⟨A5,n1,c5,A3,n3,c3,by rw [HPP.out,HQ.out],by rw [HPP.out]; exact ⟨by rw [HPS.out]; exact hh,hx1,hhb,hx2,by rw [HPS.out]; exact own_down hof (by omega),own_down hocf (by omega)⟩,hWf⟩
 ·have g1:(q != 0) = true:=by simp [hq0]
  have hpe:pp = p:=by rw [← HPP.out]; exact stepP_no HQ.out hq0
  subst hpe
  clear hb2 h2 HOW hbN hq0
  have hbNl:bN < w2.heap.size:=hN.lt
  obtain ⟨p0,p1,p2,p3,lt_p⟩:=blok4 (show Blok _ _ _ #[.slice A1 n1 c1,.slice A n c,.int .i64 pp.clk,.int .i64 pp.ver] from hP)
  go_wp2_with fail
  clear p0 p1 p2 p3 lt_p
  refine (pcopy_any A1 n1 c1 A n c pp w2 h).mono ?_
  rintro e w3 ⟨A4,c4,A5,c5,rfl,ho,hb⟩
  replace h:=h.up hb
  replace hP:=hP.below hb hP.lt
  replace hD:=hD.below hb hD.lt
  replace hR:=hR.below hb hR.lt
  replace hN:=hN.below hb hN.lt
  replace hB:=hB.trans (hb.mono hs)
  replace hs:=hB.size
  clear hb
  obtain ⟨_,_,hb1,hb2,ho1,ho2⟩:=ho
  obtain ⟨n_0,n_1,n_2,n_3,lt_n_⟩:=blok4 (show Blok _ _ _ #[.slice A2 n2 c2,.slice A3 n3 c3,.int .i64 pp.clk,.int .i64 pp.ver] from hN)
  obtain ⟨nf_0,nf_1,nf_2,nf_3⟩:=free4 hN
  have hl1:=h.l1
  have hl2:=h.l
  clear h
  go_upto_region 7 with fail
  clear n_0 n_1 n_2 n_3 nf_0 nf_1 nf_2 nf_3 lt_n_
  replace hN:=hN.set_ 0 (.slice A4 n1 c4)
  replace hR:=hR.far (p:=⟨bN,0,none⟩) (by show w.heap.size + 1 + 1 ≠ bN; omega) (.slice A4 n1 c4)
  replace ho1:=own_far ho1 (grown_set (g:=bN) (w3) 0 (.slice A4 n1 c4)) (fun g hg => by injection hg with hg; omega)
  replace ho2:=own_far ho2 (grown_set (g:=bN) (w3) 0 (.slice A4 n1 c4)) (fun g hg => by injection hg with hg; omega)
  replace hB:=hB.setCell (p:=⟨bN,0,none⟩) (by show w.heap.size ≤ bN; omega) (.slice A4 n1 c4)
  replace hN:=hN.set_ 1 (.slice A5 n c5)
  replace hR:=hR.far (p:=⟨bN,1,none⟩) (by show w.heap.size + 1 + 1 ≠ bN; omega) (.slice A5 n c5)
  replace ho1:=own_far ho1 (grown_set (g:=bN) ((w3).setCell ⟨bN,0,none⟩ (.slice A4 n1 c4)) 1 (.slice A5 n c5)) (fun g hg => by injection hg with hg; omega)
  replace ho2:=own_far ho2 (grown_set (g:=bN) ((w3).setCell ⟨bN,0,none⟩ (.slice A4 n1 c4)) 1 (.slice A5 n c5)) (fun g hg => by injection hg with hg; omega)
  replace hB:=hB.setCell (p:=⟨bN,1,none⟩) (by show w.heap.size ≤ bN; omega) (.slice A5 n c5)
  replace hN:=hN.set_ 2 (.int .i64 pp.clk)
  replace hR:=hR.far (p:=⟨bN,2,none⟩) (by show w.heap.size + 1 + 1 ≠ bN; omega) (.int .i64 pp.clk)
  replace ho1:=own_far ho1 (grown_set (g:=bN) (((w3).setCell ⟨bN,0,none⟩ (.slice A4 n1 c4)).setCell ⟨bN,1,none⟩ (.slice A5 n c5)) 2 (.int .i64 pp.clk)) (fun g hg => by injection hg with hg; omega)
  replace ho2:=own_far ho2 (grown_set (g:=bN) (((w3).setCell ⟨bN,0,none⟩ (.slice A4 n1 c4)).setCell ⟨bN,1,none⟩ (.slice A5 n c5)) 2 (.int .i64 pp.clk)) (fun g hg => by injection hg with hg; omega)
  replace hB:=hB.setCell (p:=⟨bN,2,none⟩) (by show w.heap.size ≤ bN; omega) (.int .i64 pp.clk)
  replace hN:=hN.set_ 3 (.int .i64 pp.ver)
  replace hR:=hR.far (p:=⟨bN,3,none⟩) (by show w.heap.size + 1 + 1 ≠ bN; omega) (.int .i64 pp.ver)
  replace ho1:=own_far ho1 (grown_set (g:=bN) ((((w3).setCell ⟨bN,0,none⟩ (.slice A4 n1 c4)).setCell ⟨bN,1,none⟩ (.slice A5 n c5)).setCell ⟨bN,2,none⟩ (.int .i64 pp.clk)) 3 (.int .i64 pp.ver)) (fun g hg => by injection hg with hg; omega)
  replace ho2:=own_far ho2 (grown_set (g:=bN) ((((w3).setCell ⟨bN,0,none⟩ (.slice A4 n1 c4)).setCell ⟨bN,1,none⟩ (.slice A5 n c5)).setCell ⟨bN,2,none⟩ (.int .i64 pp.clk)) 3 (.int .i64 pp.ver)) (fun g hg => by injection hg with hg; omega)
  replace hB:=hB.setCell (p:=⟨bN,3,none⟩) (by show w.heap.size ≤ bN; omega) (.int .i64 pp.ver)
  replace hs:=hB.size
  generalize ((((w3).setCell ⟨bN,0,none⟩ (.slice A4 n1 c4)).setCell ⟨bN,1,none⟩ (.slice A5 n c5)).setCell ⟨bN,2,none⟩ (.int .i64 pp.clk)).setCell ⟨bN,3,none⟩ (.int .i64 pp.ver) = w4 at *
  obtain ⟨n_0,n_1,n_2,n_3,lt_n_⟩:=blok4 (show Blok _ _ _ #[.slice A4 n1 c4,.slice A5 n c5,.int .i64 pp.clk,.int .i64 pp.ver] from hN)
  obtain ⟨nf_0,nf_1,nf_2,nf_3⟩:=free4 hN
  obtain ⟨r0,r1,r2,r3,lt_x⟩:=blok4 hR
  obtain ⟨f_0,f_1,f_2,f_3⟩:=free4 hR
  have HX:=Lib.hid hR
  clear hR
  go_wp2_with fail
  have hX:=HX.out
  clear n_0 n_1 n_2 n_3 nf_0 nf_1 nf_2 nf_3 lt_n_
  clear r0 r1 r2 r3
  obtain ⟨hF,hWf,hgw⟩:=ret4 (show Blok _ _ _ #[_,_,_,_] from hX) hB (show w.heap.size ≤ (w.heap.size + 1 + 1) by first | exact Nat.le_refl _ | omega) (.slice A4 n1 c4) (.slice A5 n c5) (.int .i64 pp.clk) (.int .i64 pp.ver)
  have hlF:=hF.lt
  generalize (((w4.setCell ⟨(w.heap.size + 1 + 1),0,none⟩ (.slice A4 n1 c4)).setCell ⟨(w.heap.size + 1 + 1),1,none⟩ (.slice A5 n c5)).setCell ⟨(w.heap.size + 1 + 1),2,none⟩ (.int .i64 pp.clk)).setCell ⟨(w.heap.size + 1 + 1),3,none⟩ (.int .i64 pp.ver) = wf at *
  obtain ⟨r0,r1,r2,r3,_⟩:=blok4 hF
  refine bodyPost_ret (v:=.tuple #[.agg #[.slice A4 n1 c4,.slice A5 n c5,.int .i64 pp.clk,.int .i64 pp.ver],.int .i64 q]) (by simp [results,Tryz.results65,go_sem,r0,r1,r2,r3,hlF]) rfl ?_
  have hof:=own_far ho1 hgw (fun g hg => by injection hg with hg; omega)
  have hocf:=own_far ho2 hgw (fun g hg => by injection hg with hg; omega)
  refine ⟨A4,n1,c4,A5,n,c5,by rw [HPP.out,HQ.out],by rw [HPP.out]; exact ⟨hl1,hl2,hb1,hb2,own_down hof (by omega),own_down hocf (by omega)⟩,hWf⟩
end Go.Proofs.YtjldgcebadojiaaGreatDoor
