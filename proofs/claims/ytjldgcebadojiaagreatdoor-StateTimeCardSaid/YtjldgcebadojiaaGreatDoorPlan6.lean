/- Contract of plan.Advance. It makes new memory alone. -/
import Derived.Test.YtjldgcebadojiaaGreatDoorPlan5
namespace Go.Proofs.YtjldgcebadojiaaGreatDoor
open Go.ChangeShapes Go.WideShapes Go.ChangeAt Go.RowKit Go.Sort
set_option linter.unusedSimpArgs false
set_option linter.unusedVariables false
def AdvRet (p:Pl) (now:Int) (w:World) (e:Ending) (w':World):Prop:=
 ∃ A2 n2 c2 A3 n3 c3 A4 n4 c4,e = .returned (.tuple #[.agg #[.slice A2 n2 c2,.slice A3 n3 c3,.int .i64 (advP p now).clk,.int .i64 (advP p now).ver],.slice A4 n4 c4,.int .i64 (advQ p now)]) ∧ PlOwn w' w.heap.size A2 n2 c2 A3 n3 c3 (advP p now) ∧
  (advG p now).length = n4 ∧ Sl w' w'.heap.size 1 A4 n4 c4 ((advG p now).map (Value.int .i64)) ∧ Below w.heap.size w w'
def AdvOwn (p:Pl) (now:Int) (w:World) (e:Ending) (w':World):Prop:=
 ∃ A2 n2 c2 A3 n3 c3 A4 n4 c4,e = .returned (.tuple #[.agg #[.slice A2 n2 c2,.slice A3 n3 c3,.int .i64 (advP p now).clk,.int .i64 (advP p now).ver],.slice A4 n4 c4,.int .i64 (advQ p now)]) ∧ PlOwn w' w.heap.size A2 n2 c2 A3 n3 c3 (advP p now) ∧
  (advG p now).length = n4 ∧ w'.ownsRow w.heap.size 3 1 (.slice A4 n4 c4) n4 ((advG p now).map (Value.int .i64)) ∧ Below w.heap.size w w'
theorem AdvOwn.ret {p:Pl} {now:Int} {w:World} {e:Ending} {w':World} (h:AdvOwn p now w e w'):AdvRet p now w e w':=by
 obtain ⟨A2,n2,c2,A3,n3,c3,A4,n4,c4,he,ho,hl,hs,hb⟩:=h
 exact ⟨A2,n2,c2,A3,n3,c3,A4,n4,c4,he,ho,hl,Sl.of_own hs,hb⟩
set_option maxHeartbeats 16000000 in
set_option maxRecDepth 100000 in
theorem padv_own (A1:Option Addr) (n1 c1:Nat) (A:Option Addr) (n c:Nat) (p:Pl) (now:Int) (w:World) (h:PlAt w A1 n1 c1 A n c p) (hv0:0 ≤ p.ver) (hv1:p.ver ≤ 1099511627776) :
  Calls Tryz.prog 70 #[.agg #[.slice A1 n1 c1,.slice A n c,.int .i64 p.clk,.int .i64 p.ver],.int .i64 now] w (AdvOwn p now w):=by
 have hB:Below w.heap.size w ((w.alloc (.cells #[.slice A1 n1 c1,.slice A n c,.int .i64 p.clk,.int .i64 p.ver] 25)).alloc (.cells #[.slice none 0 0,.slice none 0 0,.int .i64 0,.int .i64 0] 25)):=by (repeat (first | exact Below.refl _ _ | refine Below.alloc ?_ (by first | omega | (simp; done) | (simp; omega)) _ | refine Below.setCell ?_ (by first | omega | (simp; done) | (simp; omega)) _ | refine Below.drew ?_))
 have hP:=(Blok.new w 25 #[.slice A1 n1 c1,.slice A n c,.int .i64 p.clk,.int .i64 p.ver]).alloc (.cells #[.slice none 0 0,.slice none 0 0,.int .i64 0,.int .i64 0] 25)
 have hR:=Blok.new (w.alloc (.cells #[.slice A1 n1 c1,.slice A n c,.int .i64 p.clk,.int .i64 p.ver] 25)) 25 #[.slice none 0 0,.slice none 0 0,.int .i64 0,.int .i64 0]
 simp only [World.size_alloc] at hR
 replace h:=h.up hB
 have hs:=hB.size
 obtain ⟨ib,hib⟩:∃ x,inB now p.clk 2147483647 = x:=⟨_,rfl⟩
 have HIB:=Lib.hid hib
 clear hib
 go_enter Tryz.func70,Tryz.ntmps70
 go_upto_region 1 with fail
 generalize (w.alloc (.cells #[.slice A1 n1 c1,.slice A n c,.int .i64 p.clk,.int .i64 p.ver] 25)).alloc (.cells #[.slice none 0 0,.slice none 0 0,.int .i64 0,.int .i64 0] 25) = w0 at *
 obtain ⟨p0,p1,p2,p3,lt_p⟩:=blok4 (show Blok _ _ _ #[.slice A1 n1 c1,.slice A n c,.int .i64 p.clk,.int .i64 p.ver] from hP)
 go_wp2_with fail
 clear p0 p1 p2 p3 lt_p
 refine (pcopy_any A1 n1 c1 A n c p w0 h).mono ?_
 rintro e w1 ⟨A2,c2,A3,c3,rfl,ho,hb⟩
 have hw0:w.heap.size + 1 < w0.heap.size:=hR.lt
 replace hP:=hP.below hb hP.lt
 replace hR:=hR.below hb hR.lt
 replace hB:=hB.trans (hb.mono hs)
 replace hs:=hB.size
 clear hb
 clear h
 obtain ⟨hl1,hl2,hb1,hb2,ho1,ho2⟩:=ho
 have HL1:=Lib.hid hl1
 have HL2:=Lib.hid hl2
 clear hl1 hl2
 go_upto_region 2 with fail
 have hN:=Blok.new w1 25 #[.slice A2 n1 c2,.slice A3 n c3,.int .i64 p.clk,.int .i64 p.ver]
 have hb:Below w1.heap.size w1 (w1.alloc (.cells #[.slice A2 n1 c2,.slice A3 n c3,.int .i64 p.clk,.int .i64 p.ver] 25)):=by (repeat (first | exact Below.refl _ _ | refine Below.alloc ?_ (by first | omega | (simp; done) | (simp; omega)) _ | refine Below.setCell ?_ (by first | omega | (simp; done) | (simp; omega)) _ | refine Below.drew ?_))
 have hnl:w.heap.size + 1 < w1.heap.size:=hR.lt
 have hgb1:∀ g,(Value.slice A2 n1 c2).ownBlock = some g → g < w1.heap.size:=fun g hg => (ho1.lt g hg).2
 have hgb2:∀ g,(Value.slice A3 n c3).ownBlock = some g → g < w1.heap.size:=fun g hg => (ho2.lt g hg).2
 replace hP:=hP.below hb hP.lt
 replace hR:=hR.below hb hR.lt
 replace ho1:=own_below ho1 hb
 replace ho2:=own_below ho2 hb
 replace hB:=hB.trans (hb.mono hs)
 replace hs:=hB.size
 clear hb
 generalize w1.alloc (.cells #[.slice A2 n1 c2,.slice A3 n c3,.int .i64 p.clk,.int .i64 p.ver] 25) = w2 at *
 generalize w1.heap.size = bN at *
 have hbl:bN < w2.heap.size:=hN.lt
 have p2:w2.cell? ⟨w.heap.size,2,none⟩ = some (.int .i64 p.clk):=hP.cell 2
 have lt_p:=hP.lt
 go_wp2_with fail
 refine (in_any now p.clk 2147483647 w2).mono ?_
 rintro e w3 ⟨rfl,rfl⟩
 rw [HIB.out]
 cases ib
 ·clear p2 lt_p
  obtain ⟨n_0,n_1,n_2,n_3,lt_n_⟩:=blok4 (show Blok _ _ _ #[.slice A2 n1 c2,.slice A3 n c3,.int .i64 p.clk,.int .i64 p.ver] from hN)
  obtain ⟨nf_0,nf_1,nf_2,nf_3⟩:=free4 hN
  obtain ⟨r0,r1,r2,r3,lt_x⟩:=blok4 hR
  obtain ⟨f_0,f_1,f_2,f_3⟩:=free4 hR
  have HX:=Lib.hid hR
  clear hR
  go_wp2_with fail
  have hX:=HX.out
  clear n_0 n_1 n_2 n_3 nf_0 nf_1 nf_2 nf_3 lt_n_
  clear r0 r1 r2 r3
  obtain ⟨hF,hWf,hgw⟩:=ret4 (show Blok _ _ _ #[_,_,_,_] from hX) hB (show w.heap.size ≤ (w.heap.size + 1) by first | exact Nat.le_refl _ | omega) (.slice A2 n1 c2) (.slice A3 n c3) (.int .i64 p.clk) (.int .i64 p.ver)
  have hlF:=hF.lt
  generalize (((w2.setCell ⟨(w.heap.size + 1),0,none⟩ (.slice A2 n1 c2)).setCell ⟨(w.heap.size + 1),1,none⟩ (.slice A3 n c3)).setCell ⟨(w.heap.size + 1),2,none⟩ (.int .i64 p.clk)).setCell ⟨(w.heap.size + 1),3,none⟩ (.int .i64 p.ver) = wf at *
  obtain ⟨r0,r1,r2,r3,_⟩:=blok4 hF
  refine bodyPost_ret (v:=.tuple #[.agg #[.slice A2 n1 c2,.slice A3 n c3,.int .i64 p.clk,.int .i64 p.ver],.slice none 0 0,.int .i64 7]) (by simp [results,Tryz.results70,go_sem,r0,r1,r2,r3,hlF]) rfl ?_
  have hof:=own_far ho1 hgw (fun g hg => by injection hg with hg; omega)
  have hocf:=own_far ho2 hgw (fun g hg => by injection hg with hg; omega)
  have e1:advP p now = p:=by unfold advP; rw [if_neg (by rw [HIB.out]; simp)]
  have e2:advQ p now = 7:=by unfold advQ; rw [if_neg (by rw [HIB.out]; simp)]
  have e3:advG p now = []:=by unfold advG; rw [if_neg (by rw [HIB.out]; simp)]
  refine ⟨A2,n1,c2,A3,n,c3,none,0,0,by rw [e1,e2],by rw [e1]; exact ⟨HL1.out,HL2.out,hb1,hb2,own_down hof (by omega),own_down hocf (by omega)⟩,by rw [e3]; rfl,by rw [e3]; exact World.ownsRow_nil _ _ _ _,hWf⟩
 have e2:advQ p now = 0:=by unfold advQ; rw [if_pos HIB.out]
 have e3:advG p now = sortI (Kc.goneL p.cs now):=by unfold advG; rw [if_pos HIB.out]
 obtain ⟨nv,hnv⟩:∃ x,(if now = p.clk then p.ver else min (p.ver + 1) 1099511627776) = x:=⟨_,rfl⟩
 have e1:advP p now = ⟨Kc.leftC p.cs now,p.rs.filter (fun x => !decide (x.en ≤ now)),now,nv⟩:=by unfold advP; rw [if_pos HIB.out,hnv]
 have E1:=Lib.hid e1
 have E2:=Lib.hid e2
 have E3:=Lib.hid e3
 have HGE:=Lib.hid (show p.clk ≤ now by have:=HIB.out; unfold inB at this; rw [decide_eq_true_eq] at this; exact this.1)
 clear e1 e2 e3
 by_cases hgt:now > p.clk

 ·have g2:decide (now > p.clk) = true:=decide_eq_true hgt
  have hnv2:min (p.ver + 1) 1099511627776 = nv:=by rw [← hnv,if_neg (by omega)]
  have HNV:=Lib.hid hnv2
  clear hnv hnv2 hgt
  obtain ⟨n_0,n_1,n_2,n_3,lt_n_⟩:=blok4 (show Blok _ _ _ #[.slice A2 n1 c2,.slice A3 n c3,.int .i64 p.clk,.int .i64 p.ver] from hN)
  obtain ⟨nf_0,nf_1,nf_2,nf_3⟩:=free4 hN
  go_wp2_with fail
  clear n_0 n_1 n_2 n_3 nf_0 nf_1 nf_2 nf_3 lt_n_
  clear p2 lt_p g2
  refine (pchanged_any A2 n1 c2 A3 n c3 p.clk p.ver hv0 hv1 nv HNV.out w2).mono ?_
  rintro e w3 ⟨rfl,hb⟩
  replace hP:=hP.below hb hP.lt
  replace hR:=hR.below hb hR.lt
  replace hN:=hN.below hb hN.lt
  replace ho1:=own_below ho1 hb
  replace ho2:=own_below ho2 hb
  replace hB:=hB.trans (hb.mono hs)
  replace hs:=hB.size
  clear hb
  obtain ⟨n_0,n_1,n_2,n_3,lt_n_⟩:=blok4 (show Blok _ _ _ #[.slice A2 n1 c2,.slice A3 n c3,.int .i64 p.clk,.int .i64 p.ver] from hN)
  obtain ⟨nf_0,nf_1,nf_2,nf_3⟩:=free4 hN
  go_upto_region 6 with fail
  clear n_0 n_1 n_2 n_3 nf_0 nf_1 nf_2 nf_3 lt_n_
  replace hN:=hN.set_ 0 (.slice A2 n1 c2)
  replace hP:=hP.far (p:=⟨bN,0,none⟩) (by show w.heap.size ≠ bN; omega) (.slice A2 n1 c2)
  replace hR:=hR.far (p:=⟨bN,0,none⟩) (by show w.heap.size + 1 ≠ bN; omega) (.slice A2 n1 c2)
  replace ho1:=own_other ho1 (grown_set (g:=bN) (w3) 0 (.slice A2 n1 c2)) (fun g hg => Nat.ne_of_lt (hgb1 g hg))
  replace ho2:=own_other ho2 (grown_set (g:=bN) (w3) 0 (.slice A2 n1 c2)) (fun g hg => Nat.ne_of_lt (hgb2 g hg))
  replace hB:=hB.setCell (p:=⟨bN,0,none⟩) (by show w.heap.size ≤ bN; omega) (.slice A2 n1 c2)
  replace hN:=hN.set_ 1 (.slice A3 n c3)
  replace hP:=hP.far (p:=⟨bN,1,none⟩) (by show w.heap.size ≠ bN; omega) (.slice A3 n c3)
  replace hR:=hR.far (p:=⟨bN,1,none⟩) (by show w.heap.size + 1 ≠ bN; omega) (.slice A3 n c3)
  replace ho1:=own_other ho1 (grown_set (g:=bN) ((w3).setCell ⟨bN,0,none⟩ (.slice A2 n1 c2)) 1 (.slice A3 n c3)) (fun g hg => Nat.ne_of_lt (hgb1 g hg))
  replace ho2:=own_other ho2 (grown_set (g:=bN) ((w3).setCell ⟨bN,0,none⟩ (.slice A2 n1 c2)) 1 (.slice A3 n c3)) (fun g hg => Nat.ne_of_lt (hgb2 g hg))
  replace hB:=hB.setCell (p:=⟨bN,1,none⟩) (by show w.heap.size ≤ bN; omega) (.slice A3 n c3)
  replace hN:=hN.set_ 2 (.int .i64 p.clk)
  replace hP:=hP.far (p:=⟨bN,2,none⟩) (by show w.heap.size ≠ bN; omega) (.int .i64 p.clk)
  replace hR:=hR.far (p:=⟨bN,2,none⟩) (by show w.heap.size + 1 ≠ bN; omega) (.int .i64 p.clk)
  replace ho1:=own_other ho1 (grown_set (g:=bN) (((w3).setCell ⟨bN,0,none⟩ (.slice A2 n1 c2)).setCell ⟨bN,1,none⟩ (.slice A3 n c3)) 2 (.int .i64 p.clk)) (fun g hg => Nat.ne_of_lt (hgb1 g hg))
  replace ho2:=own_other ho2 (grown_set (g:=bN) (((w3).setCell ⟨bN,0,none⟩ (.slice A2 n1 c2)).setCell ⟨bN,1,none⟩ (.slice A3 n c3)) 2 (.int .i64 p.clk)) (fun g hg => Nat.ne_of_lt (hgb2 g hg))
  replace hB:=hB.setCell (p:=⟨bN,2,none⟩) (by show w.heap.size ≤ bN; omega) (.int .i64 p.clk)
  replace hN:=hN.set_ 3 (.int .i64 nv)
  replace hP:=hP.far (p:=⟨bN,3,none⟩) (by show w.heap.size ≠ bN; omega) (.int .i64 nv)
  replace hR:=hR.far (p:=⟨bN,3,none⟩) (by show w.heap.size + 1 ≠ bN; omega) (.int .i64 nv)
  replace ho1:=own_other ho1 (grown_set (g:=bN) ((((w3).setCell ⟨bN,0,none⟩ (.slice A2 n1 c2)).setCell ⟨bN,1,none⟩ (.slice A3 n c3)).setCell ⟨bN,2,none⟩ (.int .i64 p.clk)) 3 (.int .i64 nv)) (fun g hg => Nat.ne_of_lt (hgb1 g hg))
  replace ho2:=own_other ho2 (grown_set (g:=bN) ((((w3).setCell ⟨bN,0,none⟩ (.slice A2 n1 c2)).setCell ⟨bN,1,none⟩ (.slice A3 n c3)).setCell ⟨bN,2,none⟩ (.int .i64 p.clk)) 3 (.int .i64 nv)) (fun g hg => Nat.ne_of_lt (hgb2 g hg))
  replace hB:=hB.setCell (p:=⟨bN,3,none⟩) (by show w.heap.size ≤ bN; omega) (.int .i64 nv)
  replace hs:=hB.size
  generalize ((((w3).setCell ⟨bN,0,none⟩ (.slice A2 n1 c2)).setCell ⟨bN,1,none⟩ (.slice A3 n c3)).setCell ⟨bN,2,none⟩ (.int .i64 p.clk)).setCell ⟨bN,3,none⟩ (.int .i64 nv) = w4 at *
  obtain ⟨n_0,n_1,n_2,n_3,lt_n_⟩:=blok4 (show Blok _ _ _ #[.slice A2 n1 c2,.slice A3 n c3,.int .i64 p.clk,.int .i64 nv] from hN)
  obtain ⟨nf_0,nf_1,nf_2,nf_3⟩:=free4 hN
  go_wp2_with fail
  clear n_0 n_1 n_2 n_3 nf_0 nf_1 nf_2 nf_3 lt_n_
  refine (Kc.expire_any A2 n1 c2 p.cs now w4 HL1.out (by omega) (Sl.of_own ho1)).mono ?_
  rintro e w5 ⟨v,u,rfl,hv,hu,hb⟩
  have hbl2:bN < w4.heap.size:=hN.lt
  have hW0:w.heap.size + 1 < w4.heap.size:=hR.lt
  replace hP:=hP.below hb hP.lt
  replace hR:=hR.below hb hR.lt
  replace hN:=hN.below hb hN.lt
  replace ho2:=own_below ho2 hb
  replace hB:=hB.trans (hb.mono hs)
  replace hs:=hB.size
  clear hb
  obtain ⟨nl,hnl1⟩:∃ x,(Kc.leftC p.cs now).length = x:=⟨_,rfl⟩
  rw [hnl1] at hv
  have hnle:nl ≤ n1:=by rw [← hnl1,← HL1.out]; unfold Kc.leftC; exact List.length_filter_le _ _
  have HNL:=Lib.hid hnl1
  obtain ⟨A5,c5,rfl⟩:=slice_of_own hv
  obtain ⟨ng,hng⟩:∃ x,(Kc.goneL p.cs now).length = x:=⟨_,rfl⟩
  rw [hng] at hu
  have HNG:=Lib.hid hng
  obtain ⟨A6,c6,rfl⟩:=slice_of_own hu
  clear hnl1 hng ho1
  obtain ⟨n_0,n_1,n_2,n_3,lt_n_⟩:=blok4 (show Blok _ _ _ #[.slice A2 n1 c2,.slice A3 n c3,.int .i64 p.clk,.int .i64 nv] from hN)
  obtain ⟨nf_0,nf_1,nf_2,nf_3⟩:=free4 hN
  go_upto_region 8 with fail
  clear n_0 n_1 n_2 n_3 nf_0 nf_1 nf_2 nf_3 lt_n_
  replace hN:=hN.set_ 0 (.slice A5 nl c5)
  replace hP:=hP.far (p:=⟨bN,0,none⟩) (by show w.heap.size ≠ bN; omega) (.slice A5 nl c5)
  replace hR:=hR.far (p:=⟨bN,0,none⟩) (by show w.heap.size + 1 ≠ bN; omega) (.slice A5 nl c5)
  replace hv:=own_far hv (grown_set (g:=bN) (w5) 0 (.slice A5 nl c5)) (fun g hg => by injection hg with hg; omega)
  replace hu:=own_far hu (grown_set (g:=bN) (w5) 0 (.slice A5 nl c5)) (fun g hg => by injection hg with hg; omega)
  replace ho2:=own_other ho2 (grown_set (g:=bN) (w5) 0 (.slice A5 nl c5)) (fun g hg => Nat.ne_of_lt (hgb2 g hg))
  replace hB:=hB.setCell (p:=⟨bN,0,none⟩) (by show w.heap.size ≤ bN; omega) (.slice A5 nl c5)
  replace hs:=hB.size
  generalize (w5).setCell ⟨bN,0,none⟩ (.slice A5 nl c5) = w6 at *
  obtain ⟨n_0,n_1,n_2,n_3,lt_n_⟩:=blok4 (show Blok _ _ _ #[.slice A5 nl c5,.slice A3 n c3,.int .i64 p.clk,.int .i64 nv] from hN)
  obtain ⟨nf_0,nf_1,nf_2,nf_3⟩:=free4 hN
  go_wp2_with fail
  clear n_0 n_1 n_2 n_3 nf_0 nf_1 nf_2 nf_3 lt_n_
  refine (Kr.expire_any A3 n c3 p.rs now w6 HL2.out (by omega) (Sl.of_own ho2)).mono ?_
  rintro e w7 ⟨v7,rfl,hv7,hb⟩
  have hbl3:bN < w6.heap.size:=hN.lt
  have hW6:w.heap.size + 1 < w6.heap.size:=hR.lt
  replace hP:=hP.below hb hP.lt
  replace hR:=hR.below hb hR.lt
  replace hN:=hN.below hb hN.lt
  replace hv:=own_below hv hb
  replace hu:=own_below hu hb
  replace hB:=hB.trans (hb.mono hs)
  replace hs:=hB.size
  clear hb
  obtain ⟨nr,hnr1⟩:∃ x,(p.rs.filter (fun x => !decide (x.en ≤ now))).length = x:=⟨_,rfl⟩
  rw [hnr1] at hv7
  have hnre:nr ≤ n:=by rw [← hnr1,← HL2.out]; exact List.length_filter_le _ _
  have HNR:=Lib.hid hnr1
  obtain ⟨A7,c7,rfl⟩:=slice_of_own hv7
  clear hnr1 ho2
  obtain ⟨n_0,n_1,n_2,n_3,lt_n_⟩:=blok4 (show Blok _ _ _ #[.slice A5 nl c5,.slice A3 n c3,.int .i64 p.clk,.int .i64 nv] from hN)
  obtain ⟨nf_0,nf_1,nf_2,nf_3⟩:=free4 hN
  go_upto_region 9 with fail
  clear n_0 n_1 n_2 n_3 nf_0 nf_1 nf_2 nf_3 lt_n_
  replace hN:=hN.set_ 1 (.slice A7 nr c7)
  replace hP:=hP.far (p:=⟨bN,1,none⟩) (by show w.heap.size ≠ bN; omega) (.slice A7 nr c7)
  replace hR:=hR.far (p:=⟨bN,1,none⟩) (by show w.heap.size + 1 ≠ bN; omega) (.slice A7 nr c7)
  replace hv:=own_far hv (grown_set (g:=bN) (w7) 1 (.slice A7 nr c7)) (fun g hg => by injection hg with hg; omega)
  replace hu:=own_far hu (grown_set (g:=bN) (w7) 1 (.slice A7 nr c7)) (fun g hg => by injection hg with hg; omega)
  replace hv7:=own_far hv7 (grown_set (g:=bN) (w7) 1 (.slice A7 nr c7)) (fun g hg => by injection hg with hg; omega)
  replace hB:=hB.setCell (p:=⟨bN,1,none⟩) (by show w.heap.size ≤ bN; omega) (.slice A7 nr c7)
  replace hs:=hB.size
  generalize (w7).setCell ⟨bN,1,none⟩ (.slice A7 nr c7) = w8 at *
  obtain ⟨n_0,n_1,n_2,n_3,lt_n_⟩:=blok4 (show Blok _ _ _ #[.slice A5 nl c5,.slice A7 nr c7,.int .i64 p.clk,.int .i64 nv] from hN)
  obtain ⟨nf_0,nf_1,nf_2,nf_3⟩:=free4 hN
  go_upto_region 10 with fail
  clear n_0 n_1 n_2 n_3 nf_0 nf_1 nf_2 nf_3 lt_n_
  replace hN:=hN.set_ 2 (.int .i64 now)
  replace hP:=hP.far (p:=⟨bN,2,none⟩) (by show w.heap.size ≠ bN; omega) (.int .i64 now)
  replace hR:=hR.far (p:=⟨bN,2,none⟩) (by show w.heap.size + 1 ≠ bN; omega) (.int .i64 now)
  replace hv:=own_far hv (grown_set (g:=bN) (w8) 2 (.int .i64 now)) (fun g hg => by injection hg with hg; omega)
  replace hu:=own_far hu (grown_set (g:=bN) (w8) 2 (.int .i64 now)) (fun g hg => by injection hg with hg; omega)
  replace hv7:=own_far hv7 (grown_set (g:=bN) (w8) 2 (.int .i64 now)) (fun g hg => by injection hg with hg; omega)
  replace hB:=hB.setCell (p:=⟨bN,2,none⟩) (by show w.heap.size ≤ bN; omega) (.int .i64 now)
  replace hs:=hB.size
  generalize (w8).setCell ⟨bN,2,none⟩ (.int .i64 now) = w9 at *
  obtain ⟨n_0,n_1,n_2,n_3,lt_n_⟩:=blok4 (show Blok _ _ _ #[.slice A5 nl c5,.slice A7 nr c7,.int .i64 now,.int .i64 nv] from hN)
  obtain ⟨nf_0,nf_1,nf_2,nf_3⟩:=free4 hN
  obtain ⟨r0,r1,r2,r3,lt_x⟩:=blok4 hR
  obtain ⟨f_0,f_1,f_2,f_3⟩:=free4 hR
  have HX:=Lib.hid hR
  clear hR
  go_wp2_with fail
  have hX:=HX.out
  clear n_0 n_1 n_2 n_3 nf_0 nf_1 nf_2 nf_3 lt_n_
  clear r0 r1 r2 r3
  obtain ⟨hF,hWf,hgw⟩:=ret4 (show Blok _ _ _ #[_,_,_,_] from hX) hB (show w.heap.size ≤ (w.heap.size + 1) by first | exact Nat.le_refl _ | omega) (.slice A5 nl c5) (.slice A7 nr c7) (.int .i64 now) (.int .i64 nv)
  have hlF:=hF.lt
  generalize (((w9.setCell ⟨(w.heap.size + 1),0,none⟩ (.slice A5 nl c5)).setCell ⟨(w.heap.size + 1),1,none⟩ (.slice A7 nr c7)).setCell ⟨(w.heap.size + 1),2,none⟩ (.int .i64 now)).setCell ⟨(w.heap.size + 1),3,none⟩ (.int .i64 nv) = wf at *
  obtain ⟨r0,r1,r2,r3,_⟩:=blok4 hF
  refine bodyPost_ret (v:=.tuple #[.agg #[.slice A5 nl c5,.slice A7 nr c7,.int .i64 now,.int .i64 nv],.slice A6 ng c6,.int .i64 0]) (by simp [results,Tryz.results70,go_sem,r0,r1,r2,r3,hlF]) rfl ?_
  have h1f:=own_far hv hgw (fun g hg => by injection hg with hg; omega)
  have h2f:=own_far hu hgw (fun g hg => by injection hg with hg; omega)
  have h3f:=own_far hv7 hgw (fun g hg => by injection hg with hg; omega)
  have hle1:=HNL.out
  have hle2:=HNR.out
  exact ⟨A5,nl,c5,A7,nr,c7,A6,ng,c6,by rw [E1.out,E2.out],by rw [E1.out]; exact ⟨hle1,hle2,by omega,by omega,own_down h1f (by omega),own_down h3f (by omega)⟩,by rw [E3.out,sortI_length]; exact HNG.out,by rw [E3.out]; exact own_down h2f (by omega),hWf⟩
 ·have g2:decide (now > p.clk) = false:=decide_eq_false hgt
  obtain rfl:p.ver = nv:=by rw [← hnv,if_pos (by have:=HGE.out; omega)]
  clear hnv hgt
  obtain ⟨n_0,n_1,n_2,n_3,lt_n_⟩:=blok4 (show Blok _ _ _ #[.slice A2 n1 c2,.slice A3 n c3,.int .i64 p.clk,.int .i64 p.ver] from hN)
  obtain ⟨nf_0,nf_1,nf_2,nf_3⟩:=free4 hN
  go_wp2_with fail
  clear n_0 n_1 n_2 n_3 nf_0 nf_1 nf_2 nf_3 lt_n_
  refine (Kc.expire_any A2 n1 c2 p.cs now w2 HL1.out (by omega) (Sl.of_own ho1)).mono ?_
  rintro e w5 ⟨v,u,rfl,hv,hu,hb⟩
  have hbl2:bN < w2.heap.size:=hN.lt
  have hW0:w.heap.size + 1 < w2.heap.size:=hR.lt
  replace hP:=hP.below hb hP.lt
  replace hR:=hR.below hb hR.lt
  replace hN:=hN.below hb hN.lt
  replace ho2:=own_below ho2 hb
  replace hB:=hB.trans (hb.mono hs)
  replace hs:=hB.size
  clear hb
  obtain ⟨nl,hnl1⟩:∃ x,(Kc.leftC p.cs now).length = x:=⟨_,rfl⟩
  rw [hnl1] at hv
  have hnle:nl ≤ n1:=by rw [← hnl1,← HL1.out]; unfold Kc.leftC; exact List.length_filter_le _ _
  have HNL:=Lib.hid hnl1
  obtain ⟨A5,c5,rfl⟩:=slice_of_own hv
  obtain ⟨ng,hng⟩:∃ x,(Kc.goneL p.cs now).length = x:=⟨_,rfl⟩
  rw [hng] at hu
  have HNG:=Lib.hid hng
  obtain ⟨A6,c6,rfl⟩:=slice_of_own hu
  clear hnl1 hng ho1
  obtain ⟨n_0,n_1,n_2,n_3,lt_n_⟩:=blok4 (show Blok _ _ _ #[.slice A2 n1 c2,.slice A3 n c3,.int .i64 p.clk,.int .i64 p.ver] from hN)
  obtain ⟨nf_0,nf_1,nf_2,nf_3⟩:=free4 hN
  go_upto_region 8 with fail
  clear n_0 n_1 n_2 n_3 nf_0 nf_1 nf_2 nf_3 lt_n_
  replace hN:=hN.set_ 0 (.slice A5 nl c5)
  replace hP:=hP.far (p:=⟨bN,0,none⟩) (by show w.heap.size ≠ bN; omega) (.slice A5 nl c5)
  replace hR:=hR.far (p:=⟨bN,0,none⟩) (by show w.heap.size + 1 ≠ bN; omega) (.slice A5 nl c5)
  replace hv:=own_far hv (grown_set (g:=bN) (w5) 0 (.slice A5 nl c5)) (fun g hg => by injection hg with hg; omega)
  replace hu:=own_far hu (grown_set (g:=bN) (w5) 0 (.slice A5 nl c5)) (fun g hg => by injection hg with hg; omega)
  replace ho2:=own_other ho2 (grown_set (g:=bN) (w5) 0 (.slice A5 nl c5)) (fun g hg => Nat.ne_of_lt (hgb2 g hg))
  replace hB:=hB.setCell (p:=⟨bN,0,none⟩) (by show w.heap.size ≤ bN; omega) (.slice A5 nl c5)
  replace hs:=hB.size
  generalize (w5).setCell ⟨bN,0,none⟩ (.slice A5 nl c5) = w6 at *
  obtain ⟨n_0,n_1,n_2,n_3,lt_n_⟩:=blok4 (show Blok _ _ _ #[.slice A5 nl c5,.slice A3 n c3,.int .i64 p.clk,.int .i64 p.ver] from hN)
  obtain ⟨nf_0,nf_1,nf_2,nf_3⟩:=free4 hN
  go_wp2_with fail
  clear n_0 n_1 n_2 n_3 nf_0 nf_1 nf_2 nf_3 lt_n_
  refine (Kr.expire_any A3 n c3 p.rs now w6 HL2.out (by omega) (Sl.of_own ho2)).mono ?_
  rintro e w7 ⟨v7,rfl,hv7,hb⟩
  have hbl3:bN < w6.heap.size:=hN.lt
  have hW6:w.heap.size + 1 < w6.heap.size:=hR.lt
  replace hP:=hP.below hb hP.lt
  replace hR:=hR.below hb hR.lt
  replace hN:=hN.below hb hN.lt
  replace hv:=own_below hv hb
  replace hu:=own_below hu hb
  replace hB:=hB.trans (hb.mono hs)
  replace hs:=hB.size
  clear hb
  obtain ⟨nr,hnr1⟩:∃ x,(p.rs.filter (fun x => !decide (x.en ≤ now))).length = x:=⟨_,rfl⟩
  rw [hnr1] at hv7
  have hnre:nr ≤ n:=by rw [← hnr1,← HL2.out]; exact List.length_filter_le _ _
  have HNR:=Lib.hid hnr1
  obtain ⟨A7,c7,rfl⟩:=slice_of_own hv7
  clear hnr1 ho2
  obtain ⟨n_0,n_1,n_2,n_3,lt_n_⟩:=blok4 (show Blok _ _ _ #[.slice A5 nl c5,.slice A3 n c3,.int .i64 p.clk,.int .i64 p.ver] from hN)
  obtain ⟨nf_0,nf_1,nf_2,nf_3⟩:=free4 hN
  go_upto_region 9 with fail
  clear n_0 n_1 n_2 n_3 nf_0 nf_1 nf_2 nf_3 lt_n_
  replace hN:=hN.set_ 1 (.slice A7 nr c7)
  replace hP:=hP.far (p:=⟨bN,1,none⟩) (by show w.heap.size ≠ bN; omega) (.slice A7 nr c7)
  replace hR:=hR.far (p:=⟨bN,1,none⟩) (by show w.heap.size + 1 ≠ bN; omega) (.slice A7 nr c7)
  replace hv:=own_far hv (grown_set (g:=bN) (w7) 1 (.slice A7 nr c7)) (fun g hg => by injection hg with hg; omega)
  replace hu:=own_far hu (grown_set (g:=bN) (w7) 1 (.slice A7 nr c7)) (fun g hg => by injection hg with hg; omega)
  replace hv7:=own_far hv7 (grown_set (g:=bN) (w7) 1 (.slice A7 nr c7)) (fun g hg => by injection hg with hg; omega)
  replace hB:=hB.setCell (p:=⟨bN,1,none⟩) (by show w.heap.size ≤ bN; omega) (.slice A7 nr c7)
  replace hs:=hB.size
  generalize (w7).setCell ⟨bN,1,none⟩ (.slice A7 nr c7) = w8 at *
  obtain ⟨n_0,n_1,n_2,n_3,lt_n_⟩:=blok4 (show Blok _ _ _ #[.slice A5 nl c5,.slice A7 nr c7,.int .i64 p.clk,.int .i64 p.ver] from hN)
  obtain ⟨nf_0,nf_1,nf_2,nf_3⟩:=free4 hN
  go_upto_region 10 with fail
  clear n_0 n_1 n_2 n_3 nf_0 nf_1 nf_2 nf_3 lt_n_
  replace hN:=hN.set_ 2 (.int .i64 now)
  replace hP:=hP.far (p:=⟨bN,2,none⟩) (by show w.heap.size ≠ bN; omega) (.int .i64 now)
  replace hR:=hR.far (p:=⟨bN,2,none⟩) (by show w.heap.size + 1 ≠ bN; omega) (.int .i64 now)
  replace hv:=own_far hv (grown_set (g:=bN) (w8) 2 (.int .i64 now)) (fun g hg => by injection hg with hg; omega)
  replace hu:=own_far hu (grown_set (g:=bN) (w8) 2 (.int .i64 now)) (fun g hg => by injection hg with hg; omega)
  replace hv7:=own_far hv7 (grown_set (g:=bN) (w8) 2 (.int .i64 now)) (fun g hg => by injection hg with hg; omega)
  replace hB:=hB.setCell (p:=⟨bN,2,none⟩) (by show w.heap.size ≤ bN; omega) (.int .i64 now)
  replace hs:=hB.size
  generalize (w8).setCell ⟨bN,2,none⟩ (.int .i64 now) = w9 at *
  obtain ⟨n_0,n_1,n_2,n_3,lt_n_⟩:=blok4 (show Blok _ _ _ #[.slice A5 nl c5,.slice A7 nr c7,.int .i64 now,.int .i64 p.ver] from hN)
  obtain ⟨nf_0,nf_1,nf_2,nf_3⟩:=free4 hN
  obtain ⟨r0,r1,r2,r3,lt_x⟩:=blok4 hR
  obtain ⟨f_0,f_1,f_2,f_3⟩:=free4 hR
  have HX:=Lib.hid hR
  clear hR
  go_wp2_with fail
  have hX:=HX.out
  clear n_0 n_1 n_2 n_3 nf_0 nf_1 nf_2 nf_3 lt_n_
  clear r0 r1 r2 r3
  obtain ⟨hF,hWf,hgw⟩:=ret4 (show Blok _ _ _ #[_,_,_,_] from hX) hB (show w.heap.size ≤ (w.heap.size + 1) by first | exact Nat.le_refl _ | omega) (.slice A5 nl c5) (.slice A7 nr c7) (.int .i64 now) (.int .i64 p.ver)
  have hlF:=hF.lt
  generalize (((w9.setCell ⟨(w.heap.size + 1),0,none⟩ (.slice A5 nl c5)).setCell ⟨(w.heap.size + 1),1,none⟩ (.slice A7 nr c7)).setCell ⟨(w.heap.size + 1),2,none⟩ (.int .i64 now)).setCell ⟨(w.heap.size + 1),3,none⟩ (.int .i64 p.ver) = wf at *
  obtain ⟨r0,r1,r2,r3,_⟩:=blok4 hF
  refine bodyPost_ret (v:=.tuple #[.agg #[.slice A5 nl c5,.slice A7 nr c7,.int .i64 now,.int .i64 p.ver],.slice A6 ng c6,.int .i64 0]) (by simp [results,Tryz.results70,go_sem,r0,r1,r2,r3,hlF]) rfl ?_
  have h1f:=own_far hv hgw (fun g hg => by injection hg with hg; omega)
  have h2f:=own_far hu hgw (fun g hg => by injection hg with hg; omega)
  have h3f:=own_far hv7 hgw (fun g hg => by injection hg with hg; omega)
  have hle1:=HNL.out
  have hle2:=HNR.out
  exact ⟨A5,nl,c5,A7,nr,c7,A6,ng,c6,by rw [E1.out,E2.out],by rw [E1.out]; exact ⟨hle1,hle2,by omega,by omega,own_down h1f (by omega),own_down h3f (by omega)⟩,by rw [E3.out,sortI_length]; exact HNG.out,by rw [E3.out]; exact own_down h2f (by omega),hWf⟩
theorem padv_any (A1:Option Addr) (n1 c1:Nat) (A:Option Addr) (n c:Nat) (p:Pl) (now:Int) (w:World) (h:PlAt w A1 n1 c1 A n c p) (hv0:0 ≤ p.ver) (hv1:p.ver ≤ 1099511627776) :
  Calls Tryz.prog 70 #[.agg #[.slice A1 n1 c1,.slice A n c,.int .i64 p.clk,.int .i64 p.ver],.int .i64 now] w (AdvRet p now w):=(padv_own A1 n1 c1 A n c p now w h hv0 hv1).mono fun _ _ h => h.ret
end Go.Proofs.YtjldgcebadojiaaGreatDoor
