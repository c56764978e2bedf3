/- The document's own plans: Advance. -/
import Derived.Test.YtolaabllhibkdaaGreatGM
import Derived.Test.YtolaabllhibkdaaGreatPlan6
import Derived.Test.YtolaabllhibkdaaGreatGC
import Derived.Test.YtolaabllhibkdaaGreatGD
import Derived.Deep.DeepMust
namespace Go.Proofs.YtolaabllhibkdaaGreat
open Go.ChangeShapes Go.WideShapes Go.ChangeAt Go.RowKit Go.Sort
set_option linter.unusedSimpArgs false
set_option linter.unusedVariables false
theorem slice_of_own' {w:World} {base:Nat} {T:TypeId} {K n:Nat} {v:Value} {xs:List Value} (h:w.ownsRow base T K v n xs):∃ A c,v = .slice A n c:=by
 obtain ⟨A,c,e⟩:=slice_of_own h
 exact ⟨A,c,e⟩
set_option maxHeartbeats 16000000 in
set_option maxRecDepth 100000 in
theorem rpadv_own (A1:Option Addr) (n1 c1:Nat) (A:Option Addr) (n c:Nat) (p:Pl) (now:Int) (w:World) (h:PlAt w A1 n1 c1 A n c p) (hv0:0 ≤ p.ver) (hv1:p.ver ≤ 1099511627776) :
  Calls Tryz.prog 26 #[.agg #[.slice A1 n1 c1,.slice A n c,.int .i64 p.clk,.int .i64 p.ver],.int .i64 now] w (AdvOwn p now w):=by
 have hB:Below w.heap.size w ((w.alloc (.cells #[.slice A1 n1 c1,.slice A n c,.int .i64 p.clk,.int .i64 p.ver] 25)).alloc (.cells #[.slice none 0 0,.slice none 0 0,.int .i64 0,.int .i64 0] 25)):=by (repeat (first | exact Below.refl _ _ | refine Below.alloc ?_ (by first | omega | (simp; done) | (simp; omega)) _ | refine Below.setCell ?_ (by first | omega | (simp; done) | (simp; omega)) _ | refine Below.drew ?_))
 have hP:=(Blok.new w 25 #[.slice A1 n1 c1,.slice A n c,.int .i64 p.clk,.int .i64 p.ver]).alloc (.cells #[.slice none 0 0,.slice none 0 0,.int .i64 0,.int .i64 0] 25)
 have hR:=Blok.new (w.alloc (.cells #[.slice A1 n1 c1,.slice A n c,.int .i64 p.clk,.int .i64 p.ver] 25)) 25 #[.slice none 0 0,.slice none 0 0,.int .i64 0,.int .i64 0]
 simp only [World.size_alloc] at hR
 have hSL:=h.s
 have HSL0:=Lib.hid hSL
 replace h:=h.up hB
 have hs:=hB.size
 obtain ⟨ib,hib⟩:∃ x,inB now p.clk 2147483647 = x:=⟨_,rfl⟩
 have HIB:=Lib.hid hib
 go_enter Tryz.func26,Tryz.ntmps26
 go_upto_region 1 with fail
 generalize (w.alloc (.cells #[.slice A1 n1 c1,.slice A n c,.int .i64 p.clk,.int .i64 p.ver] 25)).alloc (.cells #[.slice none 0 0,.slice none 0 0,.int .i64 0,.int .i64 0] 25) = w0 at *
 cases ib
 ·clear hSL
  obtain ⟨p0,p1,p2,p3,lt_p⟩:=blok4 (show Blok _ _ _ #[.slice A1 n1 c1,.slice A n c,.int .i64 p.clk,.int .i64 p.ver] from hP)
  unfold inB at hib
  rw [decide_eq_false_iff_not] at hib
  by_cases h1:now < p.clk
  ·have g1:decide (now < p.clk) = true:=decide_eq_true h1
   clear hib h1
   go_wp2_with fail
   clear p0 p1 p2 p3 lt_p
   refine (rpcopy_any A1 n1 c1 A n c p w0 h).mono ?_
   rintro e w1 ⟨A2,c2,A3,c3,rfl,ho,hb⟩
   have hw0:w.heap.size + 1 < w0.heap.size:=hR.lt
   replace hP:=hP.below hb hP.lt
   replace hR:=hR.below hb hR.lt
   replace hB:=hB.trans (hb.mono hs)
   replace hs:=hB.size
   clear hb
   obtain ⟨hl1,hl2,hb1,hb2,ho1,ho2⟩:=ho
   obtain ⟨r0,r1,r2,r3,lt_x⟩:=blok4 hR
   obtain ⟨f_0,f_1,f_2,f_3⟩:=free4 hR
   have HX:=Lib.hid hR
   clear hR
   go_wp2_with fail
   have hX:=HX.out
   clear r0 r1 r2 r3
   obtain ⟨hF,hWf,hgw⟩:=ret4 (show Blok _ _ _ #[_,_,_,_] from hX) hB (show w.heap.size ≤ (w.heap.size + 1) by first | exact Nat.le_refl _ | omega) (.slice A2 n1 c2) (.slice A3 n c3) (.int .i64 p.clk) (.int .i64 p.ver)
   have hlF:=hF.lt
   generalize (((w1.setCell ⟨(w.heap.size + 1),0,none⟩ (.slice A2 n1 c2)).setCell ⟨(w.heap.size + 1),1,none⟩ (.slice A3 n c3)).setCell ⟨(w.heap.size + 1),2,none⟩ (.int .i64 p.clk)).setCell ⟨(w.heap.size + 1),3,none⟩ (.int .i64 p.ver) = wf at *
   obtain ⟨r0,r1,r2,r3,_⟩:=blok4 hF
   refine bodyPost_ret (v:=.tuple #[.agg #[.slice A2 n1 c2,.slice A3 n c3,.int .i64 p.clk,.int .i64 p.ver],.slice none 0 0,.int .i64 7]) (by simp [results,Tryz.results26,go_sem,r0,r1,r2,r3,hlF]) rfl ?_
   have hof:=own_far ho1 hgw (fun g hg => by injection hg with hg; omega)
   have hocf:=own_far ho2 hgw (fun g hg => by injection hg with hg; omega)
   have e1:advP p now = p:=by unfold advP; rw [if_neg (by rw [HIB.out]; simp)]
   have e2:advQ p now = 7:=by unfold advQ; rw [if_neg (by rw [HIB.out]; simp)]
   have e3:advG p now = []:=by unfold advG; rw [if_neg (by rw [HIB.out]; simp)]
   exact ⟨A2,n1,c2,A3,n,c3,none,0,0,by rw [e1,e2],by rw [e1]; exact ⟨hl1,hl2,hb1,hb2,own_down hof (by omega),own_down hocf (by omega)⟩,by rw [e3]; rfl,by rw [e3]; exact World.ownsRow_nil _ _ _ _,hWf⟩
  ·have g1:decide (now < p.clk) = false:=decide_eq_false h1
   have g2:decide (now > 2147483647) = true:=decide_eq_true (by omega)
   clear hib h1
   go_wp2_with fail
   clear p0 p1 p2 p3 lt_p
   refine (rpcopy_any A1 n1 c1 A n c p w0 h).mono ?_
   rintro e w1 ⟨A2,c2,A3,c3,rfl,ho,hb⟩
   have hw0:w.heap.size + 1 < w0.heap.size:=hR.lt
   replace hP:=hP.below hb hP.lt
   replace hR:=hR.below hb hR.lt
   replace hB:=hB.trans (hb.mono hs)
   replace hs:=hB.size
   clear hb
   obtain ⟨hl1,hl2,hb1,hb2,ho1,ho2⟩:=ho
   obtain ⟨r0,r1,r2,r3,lt_x⟩:=blok4 hR
   obtain ⟨f_0,f_1,f_2,f_3⟩:=free4 hR
   have HX:=Lib.hid hR
   clear hR
   go_wp2_with fail
   have hX:=HX.out
   clear r0 r1 r2 r3
   obtain ⟨hF,hWf,hgw⟩:=ret4 (show Blok _ _ _ #[_,_,_,_] from hX) hB (show w.heap.size ≤ (w.heap.size + 1) by first | exact Nat.le_refl _ | omega) (.slice A2 n1 c2) (.slice A3 n c3) (.int .i64 p.clk) (.int .i64 p.ver)
   have hlF:=hF.lt
   generalize (((w1.setCell ⟨(w.heap.size + 1),0,none⟩ (.slice A2 n1 c2)).setCell ⟨(w.heap.size + 1),1,none⟩ (.slice A3 n c3)).setCell ⟨(w.heap.size + 1),2,none⟩ (.int .i64 p.clk)).setCell ⟨(w.heap.size + 1),3,none⟩ (.int .i64 p.ver) = wf at *
   obtain ⟨r0,r1,r2,r3,_⟩:=blok4 hF
   refine bodyPost_ret (v:=.tuple #[.agg #[.slice A2 n1 c2,.slice A3 n c3,.int .i64 p.clk,.int .i64 p.ver],.slice none 0 0,.int .i64 7]) (by simp [results,Tryz.results26,go_sem,r0,r1,r2,r3,hlF]) rfl ?_
   have hof:=own_far ho1 hgw (fun g hg => by injection hg with hg; omega)
   have hocf:=own_far ho2 hgw (fun g hg => by injection hg with hg; omega)
   have e1:advP p now = p:=by unfold advP; rw [if_neg (by rw [HIB.out]; simp)]
   have e2:advQ p now = 7:=by unfold advQ; rw [if_neg (by rw [HIB.out]; simp)]
   have e3:advG p now = []:=by unfold advG; rw [if_neg (by rw [HIB.out]; simp)]
   exact ⟨A2,n1,c2,A3,n,c3,none,0,0,by rw [e1,e2],by rw [e1]; exact ⟨hl1,hl2,hb1,hb2,own_down hof (by omega),own_down hocf (by omega)⟩,by rw [e3]; rfl,by rw [e3]; exact World.ownsRow_nil _ _ _ _,hWf⟩
 ·clear hSL
  obtain ⟨p0,p1,p2,p3,lt_p⟩:=blok4 (show Blok _ _ _ #[.slice A1 n1 c1,.slice A n c,.int .i64 p.clk,.int .i64 p.ver] from hP)
  unfold inB at hib
  rw [decide_eq_true_eq] at hib
  have g1:decide (now < p.clk) = false:=decide_eq_false (by omega)
  have g2:decide (now > 2147483647) = false:=decide_eq_false (by omega)
  have e2:advQ p now = 0:=by unfold advQ; rw [if_pos HIB.out]
  have e3:advG p now = sortI (Kc.goneL p.cs now):=by unfold advG; rw [if_pos HIB.out]
  obtain ⟨nv,hnv⟩:∃ x,(if now = p.clk then p.ver else min (p.ver + 1) 1099511627776) = x:=⟨_,rfl⟩
  have e1:advP p now = ⟨Kc.leftC p.cs now,p.rs.filter (fun x => !decide (x.en ≤ now)),now,nv⟩:=by unfold advP; rw [if_pos HIB.out,hnv]
  have E1:=Lib.hid e1
  have E2:=Lib.hid e2
  have E3:=Lib.hid e3
  have HNV:=Lib.hid hnv
  have HL1:=Lib.hid h.l1
  have HL2:=Lib.hid h.l
  clear e1 e2 e3 hib hnv
  obtain ⟨hb1,hb2⟩:=(⟨h.b1,h.b⟩:n1 ≤ 100000 ∧ n ≤ 100000)
  go_wp2_with fail
  clear p0 p1 p2 p3 lt_p g1 g2
  refine (Kc.rexpire6_any A1 n1 c1 p.cs now w0 HL1.out (by omega) h.s1).mono ?_
  rintro e w5 ⟨v,u,rfl,hv,hu,hb⟩
  have HSL:=Lib.hid (h.s.up hb)
  have hw0:w.heap.size + 1 < w0.heap.size:=hR.lt
  replace hP:=hP.below hb hP.lt
  replace hR:=hR.below hb hR.lt
  replace hB:=hB.trans (hb.mono hs)
  replace hs:=hB.size
  clear hb
  clear h
  obtain ⟨nl,hnl1⟩:∃ x,(Kc.leftC p.cs now).length = x:=⟨_,rfl⟩
  rw [hnl1] at hv
  have hnle:nl ≤ n1:=by rw [← hnl1,← HL1.out]; unfold Kc.leftC; exact List.length_filter_le _ _
  have HNL:=Lib.hid hnl1
  obtain ⟨A5,c5,rfl⟩:=slice_of_own hv
  obtain ⟨ng,hng⟩:∃ x,(Kc.goneL p.cs now).length = x:=⟨_,rfl⟩
  rw [hng] at hu
  have HNG:=Lib.hid hng
  obtain ⟨A7,c7,rfl⟩:=slice_of_own hu
  obtain ⟨rl,hrl⟩:∃ x,p.rs.filter (fun x => !decide (x.en ≤ now)) = x:=⟨_,rfl⟩
  have hrl':Kr.keepR p.rs now = rl:=hrl
  have HRL:=Lib.hid hrl
  have HRL':=Lib.hid hrl'
  obtain ⟨nr,hnr1⟩:∃ x,rl.length = x:=⟨_,rfl⟩
  have hnre:nr ≤ n:=by rw [← hnr1,← hrl,← HL2.out]; exact List.length_filter_le _ _
  have HNR:=Lib.hid (show (p.rs.filter (fun x => !decide (x.en ≤ now))).length = nr by rw [hrl]; exact hnr1)
  clear hnl1 hng hrl hrl' hnr1
  go_upto_region 4 with fail
  refine gen_frame ?_
  intro a0 ha0
  try simp only [List.append]
  refine wp_region_frames rfl (by kernel_rfl) (by kernel_rfl) (fun V x w' => Below w5.heap.size w5 w' ∧ (V.getD 0 true = true → x 0 = .slice A5 nl c5) ∧ (V.getD 1 true = true → x 1 = .pointer (some ⟨w.heap.size,1,none⟩)) ∧ (V.getD 2 true = true → x 2 = .slice A n c) ∧ (V.getD 3 true = true → x 3 = .int .i64 now) ∧ (V.getD 4 true = true → w'.ownsRow w5.heap.size 35 5 (x 4) nr (flatRg rl)) ∧ (V.getD 5 true = true → x 5 = .int .i64 now) ∧ (V.getD 6 true = true → x 6 = .pointer (some ⟨w.heap.size,3,none⟩)) ∧ (V.getD 7 true = true → x 7 = .int .i64 p.ver) ∧ (V.getD 8 true = true → x 8 = .agg #[.slice A5 nl c5,x 4,.int .i64 now,.int .i64 p.ver]) ∧ (V.getD 9 true = true → ∃ b,w5.heap.size ≤ b ∧ x 9 = .pointer (some ⟨b,0,none⟩) ∧ (∃ cs,cs.size = 4 ∧ Blok w' b 25 cs) ∧ (V.getD 4 true = true → ∀ g,(x 4).ownBlock = some g → g ≠ b)) ∧ (V.getD 10 true = true → ∃ b,w5.heap.size ≤ b ∧ x 9 = .pointer (some ⟨b,0,none⟩) ∧ Blok w' b 25 #[.slice A5 nl c5,x 4,.int .i64 now,.int .i64 p.ver] ∧ ∀ g,(x 4).ownBlock = some g → g ≠ b)) ?_ ?_ ?_
  ·intro x
   refine ⟨(Below.refl _ _).drew,?_,?_,?_,?_,?_,?_,?_,?_,?_,?_,?_⟩ <;> exact fun h => by simp at h
  ·intro V x b w' hbq hsz hF i hi hun haf hcl
   obtain ⟨hBw,f0,f1,f2,f3,f4,f5,f6,f7,f8,f9,f10⟩:=hF
   have hbe:b = putAll a0 [some 27,some 28,some 29,some 30,some 31,some 32,some 33,some 34,some 35,some 9,none] x 0:=hbq
   have hz:a0.tmps.size = 47:=by rw [ha0]; rfl
   have t7:b.tmps[7]?.getD undef = .slice A5 nl c5:=by have e:b.eval (.tmp 7) = .slice A5 nl c5:=(by rw [hbe,eval_out _ _ _ (by decide),ha0]; rfl); simpa [Act.eval] using e
   have t1:b.tmps[1]?.getD undef = .int .i64 now:=by have e:b.eval (.tmp 1) = .int .i64 now:=(by rw [hbe,eval_out _ _ _ (by decide),ha0]; rfl); simpa [Act.eval] using e
   have t2:b.tmps[2]?.getD undef = .pointer (some ⟨w.heap.size,0,none⟩):=by have e:b.eval (.tmp 2) = .pointer (some ⟨w.heap.size,0,none⟩):=(by rw [hbe,eval_out _ _ _ (by decide),ha0]; rfl); simpa [Act.eval] using e
   clear hbq
   have hi':i < 11:=hi
   clear hi
   obtain rfl | rfl | rfl | rfl | rfl | rfl | rfl | rfl | rfl | rfl | rfl:i = 0 ∨ i = 1 ∨ i = 2 ∨ i = 3 ∨ i = 4 ∨ i = 5 ∨ i = 6 ∨ i = 7 ∨ i = 8 ∨ i = 9 ∨ i = 10:=by omega
   ·refine wpOp_runs (v:=.slice A5 nl c5) rfl rfl (by simp [execOp,go_sem,t7]) ⟨_,_,rfl,rfl,⟨hBw,fun _ => upd_same _ _ _,fun h => by rw [upd_ne x _ (by decide)]; exact f1 (by rw [← getD_set_ne true (show 0 ≠ 1 by decide)]; exact h),fun h => by rw [upd_ne x _ (by decide)]; exact f2 (by rw [← getD_set_ne true (show 0 ≠ 2 by decide)]; exact h),fun h => by rw [upd_ne x _ (by decide)]; exact f3 (by rw [← getD_set_ne true (show 0 ≠ 3 by decide)]; exact h),fun h => by rw [upd_ne x _ (show 4 ≠ 0 by decide)]; exact f4 (by rw [← getD_set_ne true (show 0 ≠ 4 by decide)]; exact h),fun h => by rw [upd_ne x _ (by decide)]; exact f5 (by rw [← getD_set_ne true (show 0 ≠ 5 by decide)]; exact h),fun h => by rw [upd_ne x _ (by decide)]; exact f6 (by rw [← getD_set_ne true (show 0 ≠ 6 by decide)]; exact h),fun h => by rw [upd_ne x _ (by decide)]; exact f7 (by rw [← getD_set_ne true (show 0 ≠ 7 by decide)]; exact h),fun h => by rw [upd_ne x _ (show 8 ≠ 0 by decide),upd_ne x _ (show 4 ≠ 0 by decide)]; exact f8 (by rw [← getD_set_ne true (show 0 ≠ 8 by decide)]; exact h),fun h => by obtain ⟨b0,hl0,hx0,⟨cs0,hz0,hk0⟩,hn0⟩:=f9 (by rw [← getD_set_ne true (show 0 ≠ 9 by decide)]; exact h); exact ⟨b0,hl0,by rw [upd_ne x _ (show 9 ≠ 0 by decide)]; exact hx0,⟨cs0,hz0,hk0⟩,fun h4 g hg => hn0 (by rw [← getD_set_ne true (show 0 ≠ 4 by decide)]; exact h4) g (by rw [upd_ne x _ (show 4 ≠ 0 by decide)] at hg; exact hg)⟩,fun h => by obtain ⟨b0,hl0,hx0,hk0,hn0⟩:=f10 (by rw [← getD_set_ne true (show 0 ≠ 10 by decide)]; exact h); rw [upd_ne x _ (show 9 ≠ 0 by decide),upd_ne x _ (show 4 ≠ 0 by decide)]; exact ⟨b0,hl0,hx0,hk0,hn0⟩⟩⟩
   ·refine wpOp_runs (v:=.pointer (some ⟨w.heap.size,1,none⟩)) rfl rfl (by simp [execOp,go_sem,t2]) ⟨_,_,rfl,rfl,⟨hBw,fun h => by rw [upd_ne x _ (by decide)]; exact f0 (by rw [← getD_set_ne true (show 1 ≠ 0 by decide)]; exact h),fun _ => upd_same _ _ _,fun h => by rw [upd_ne x _ (by decide)]; exact f2 (by rw [← getD_set_ne true (show 1 ≠ 2 by decide)]; exact h),fun h => by rw [upd_ne x _ (by decide)]; exact f3 (by rw [← getD_set_ne true (show 1 ≠ 3 by decide)]; exact h),fun h => by rw [upd_ne x _ (show 4 ≠ 1 by decide)]; exact f4 (by rw [← getD_set_ne true (show 1 ≠ 4 by decide)]; exact h),fun h => by rw [upd_ne x _ (by decide)]; exact f5 (by rw [← getD_set_ne true (show 1 ≠ 5 by decide)]; exact h),fun h => by rw [upd_ne x _ (by decide)]; exact f6 (by rw [← getD_set_ne true (show 1 ≠ 6 by decide)]; exact h),fun h => by rw [upd_ne x _ (by decide)]; exact f7 (by rw [← getD_set_ne true (show 1 ≠ 7 by decide)]; exact h),fun h => by rw [upd_ne x _ (show 8 ≠ 1 by decide),upd_ne x _ (show 4 ≠ 1 by decide)]; exact f8 (by rw [← getD_set_ne true (show 1 ≠ 8 by decide)]; exact h),fun h => by obtain ⟨b0,hl0,hx0,⟨cs0,hz0,hk0⟩,hn0⟩:=f9 (by rw [← getD_set_ne true (show 1 ≠ 9 by decide)]; exact h); exact ⟨b0,hl0,by rw [upd_ne x _ (show 9 ≠ 1 by decide)]; exact hx0,⟨cs0,hz0,hk0⟩,fun h4 g hg => hn0 (by rw [← getD_set_ne true (show 1 ≠ 4 by decide)]; exact h4) g (by rw [upd_ne x _ (show 4 ≠ 1 by decide)] at hg; exact hg)⟩,fun h => by obtain ⟨b0,hl0,hx0,hk0,hn0⟩:=f10 (by rw [← getD_set_ne true (show 1 ≠ 10 by decide)]; exact h); rw [upd_ne x _ (show 9 ≠ 1 by decide),upd_ne x _ (show 4 ≠ 1 by decide)]; exact ⟨b0,hl0,hx0,hk0,hn0⟩⟩⟩
   ·have d1:=getD_ft (haf _ rfl ⟨1,.data⟩ (by simp) rfl)
    have e28:b.eval (.tmp 28) = .pointer (some ⟨w.heap.size,1,none⟩):=by rw [hbe,eval_in _ _ _ 1 (by decide) rfl (by rw [hz]; decide)]; exact f1 d1
    have t28:=e28; simp only [Act.eval,Array.getD_eq_getD_getElem?] at t28
    have hp:=hP.below hBw hP.lt
    have p1:w'.cell? ⟨w.heap.size,1,none⟩ = some (.slice A n c):=hp.cell 1
    have lt_p:=hp.lt
    refine wpOp_runs (v:=.slice A n c) rfl rfl (by simp [execOp,go_sem,t28,p1,lt_p]) ⟨_,_,rfl,rfl,⟨hBw,fun h => by rw [upd_ne x _ (by decide)]; exact f0 (by rw [← getD_set_ne true (show 2 ≠ 0 by decide)]; exact h),fun h => by rw [upd_ne x _ (by decide)]; exact f1 (by rw [← getD_set_ne true (show 2 ≠ 1 by decide)]; exact h),fun _ => upd_same _ _ _,fun h => by rw [upd_ne x _ (by decide)]; exact f3 (by rw [← getD_set_ne true (show 2 ≠ 3 by decide)]; exact h),fun h => by rw [upd_ne x _ (show 4 ≠ 2 by decide)]; exact f4 (by rw [← getD_set_ne true (show 2 ≠ 4 by decide)]; exact h),fun h => by rw [upd_ne x _ (by decide)]; exact f5 (by rw [← getD_set_ne true (show 2 ≠ 5 by decide)]; exact h),fun h => by rw [upd_ne x _ (by decide)]; exact f6 (by rw [← getD_set_ne true (show 2 ≠ 6 by decide)]; exact h),fun h => by rw [upd_ne x _ (by decide)]; exact f7 (by rw [← getD_set_ne true (show 2 ≠ 7 by decide)]; exact h),fun h => by rw [upd_ne x _ (show 8 ≠ 2 by decide),upd_ne x _ (show 4 ≠ 2 by decide)]; exact f8 (by rw [← getD_set_ne true (show 2 ≠ 8 by decide)]; exact h),fun h => by obtain ⟨b0,hl0,hx0,⟨cs0,hz0,hk0⟩,hn0⟩:=f9 (by rw [← getD_set_ne true (show 2 ≠ 9 by decide)]; exact h); exact ⟨b0,hl0,by rw [upd_ne x _ (show 9 ≠ 2 by decide)]; exact hx0,⟨cs0,hz0,hk0⟩,fun h4 g hg => hn0 (by rw [← getD_set_ne true (show 2 ≠ 4 by decide)]; exact h4) g (by rw [upd_ne x _ (show 4 ≠ 2 by decide)] at hg; exact hg)⟩,fun h => by obtain ⟨b0,hl0,hx0,hk0,hn0⟩:=f10 (by rw [← getD_set_ne true (show 2 ≠ 10 by decide)]; exact h); rw [upd_ne x _ (show 9 ≠ 2 by decide),upd_ne x _ (show 4 ≠ 2 by decide)]; exact ⟨b0,hl0,hx0,hk0,hn0⟩⟩⟩
   ·refine wpOp_runs (v:=.int .i64 now) rfl rfl (by simp [execOp,go_sem,t1]) ⟨_,_,rfl,rfl,⟨hBw,fun h => by rw [upd_ne x _ (by decide)]; exact f0 (by rw [← getD_set_ne true (show 3 ≠ 0 by decide)]; exact h),fun h => by rw [upd_ne x _ (by decide)]; exact f1 (by rw [← getD_set_ne true (show 3 ≠ 1 by decide)]; exact h),fun h => by rw [upd_ne x _ (by decide)]; exact f2 (by rw [← getD_set_ne true (show 3 ≠ 2 by decide)]; exact h),fun _ => upd_same _ _ _,fun h => by rw [upd_ne x _ (show 4 ≠ 3 by decide)]; exact f4 (by rw [← getD_set_ne true (show 3 ≠ 4 by decide)]; exact h),fun h => by rw [upd_ne x _ (by decide)]; exact f5 (by rw [← getD_set_ne true (show 3 ≠ 5 by decide)]; exact h),fun h => by rw [upd_ne x _ (by decide)]; exact f6 (by rw [← getD_set_ne true (show 3 ≠ 6 by decide)]; exact h),fun h => by rw [upd_ne x _ (by decide)]; exact f7 (by rw [← getD_set_ne true (show 3 ≠ 7 by decide)]; exact h),fun h => by rw [upd_ne x _ (show 8 ≠ 3 by decide),upd_ne x _ (show 4 ≠ 3 by decide)]; exact f8 (by rw [← getD_set_ne true (show 3 ≠ 8 by decide)]; exact h),fun h => by obtain ⟨b0,hl0,hx0,⟨cs0,hz0,hk0⟩,hn0⟩:=f9 (by rw [← getD_set_ne true (show 3 ≠ 9 by decide)]; exact h); exact ⟨b0,hl0,by rw [upd_ne x _ (show 9 ≠ 3 by decide)]; exact hx0,⟨cs0,hz0,hk0⟩,fun h4 g hg => hn0 (by rw [← getD_set_ne true (show 3 ≠ 4 by decide)]; exact h4) g (by rw [upd_ne x _ (show 4 ≠ 3 by decide)] at hg; exact hg)⟩,fun h => by obtain ⟨b0,hl0,hx0,hk0,hn0⟩:=f10 (by rw [← getD_set_ne true (show 3 ≠ 10 by decide)]; exact h); rw [upd_ne x _ (show 9 ≠ 3 by decide),upd_ne x _ (show 4 ≠ 3 by decide)]; exact ⟨b0,hl0,hx0,hk0,hn0⟩⟩⟩
   ·have d2:=getD_ft (haf _ rfl ⟨2,.data⟩ (by simp) rfl)
    have d3:=getD_ft (haf _ rfl ⟨3,.data⟩ (by simp) rfl)
    have e29:b.eval (.tmp 29) = .slice A n c:=by rw [hbe,eval_in _ _ _ 2 (by decide) rfl (by rw [hz]; decide)]; exact f2 d2
    have e30:b.eval (.tmp 30) = .int .i64 now:=by rw [hbe,eval_in _ _ _ 3 (by decide) rfl (by rw [hz]; decide)]; exact f3 d3
    refine wpOp_of rfl ?_
    refine step_call rfl 59 #[.tmp 29,.tmp 30] _ rfl #[.slice A n c,.int .i64 now] (by simp [e29,e30]) Tryz.func59 rfl rfl ?_
    refine (Kr.rexp7_any A n c p.rs now w' HL2.out (by omega) (HSL.out.up hBw)).mono ?_
    rintro e w'' ⟨v4,rfl,hown,hb⟩
    rw [show (Kr.keepR p.rs now).length = nr from HNR.out,HRL'.out] at hown
    have hbs:=hBw.size
    exact ⟨_,rfl,_,_,rfl,rfl,⟨hBw.trans (hb.mono hBw.size),fun h => by rw [upd_ne x _ (by decide)]; exact f0 (by rw [← getD_set_ne true (show 4 ≠ 0 by decide)]; exact h),fun h => by rw [upd_ne x _ (by decide)]; exact f1 (by rw [← getD_set_ne true (show 4 ≠ 1 by decide)]; exact h),fun h => by rw [upd_ne x _ (by decide)]; exact f2 (by rw [← getD_set_ne true (show 4 ≠ 2 by decide)]; exact h),fun h => by rw [upd_ne x _ (by decide)]; exact f3 (by rw [← getD_set_ne true (show 4 ≠ 3 by decide)]; exact h),fun _ => by rw [upd_same]; exact own_down hown hbs,fun h => by rw [upd_ne x _ (by decide)]; exact f5 (by rw [← getD_set_ne true (show 4 ≠ 5 by decide)]; exact h),fun h => by rw [upd_ne x _ (by decide)]; exact f6 (by rw [← getD_set_ne true (show 4 ≠ 6 by decide)]; exact h),fun h => by rw [upd_ne x _ (by decide)]; exact f7 (by rw [← getD_set_ne true (show 4 ≠ 7 by decide)]; exact h),fun h => absurd (getD_ft (hcl 8 _ rfl (by rw [← getD_set_ne true (show 4 ≠ 8 by decide)]; exact h) ⟨4,.data⟩ (by simp) rfl)) (by rw [hun]; decide),fun h => by obtain ⟨b0,hl0,hx0,⟨cs0,hz0,hk0⟩,_⟩:=f9 (by rw [← getD_set_ne true (show 4 ≠ 9 by decide)]; exact h); exact ⟨b0,hl0,by rw [upd_ne x _ (show 9 ≠ 4 by decide)]; exact hx0,⟨cs0,hz0,hk0.below hb hk0.lt⟩,fun _ g hg => by rw [upd_same] at hg; have:=(hown.lt g hg).1; have:=hk0.lt; omega⟩,fun h => absurd (getD_ft (hcl 8 _ rfl (getD_ft (hcl 10 _ rfl (by rw [← getD_set_ne true (show 4 ≠ 10 by decide)]; exact h) ⟨8,.data⟩ (by simp) rfl)) ⟨4,.data⟩ (by simp) rfl)) (by rw [hun]; decide)⟩⟩
   ·refine wpOp_runs (v:=.int .i64 now) rfl rfl (by simp [execOp,go_sem,t1]) ⟨_,_,rfl,rfl,⟨hBw,fun h => by rw [upd_ne x _ (by decide)]; exact f0 (by rw [← getD_set_ne true (show 5 ≠ 0 by decide)]; exact h),fun h => by rw [upd_ne x _ (by decide)]; exact f1 (by rw [← getD_set_ne true (show 5 ≠ 1 by decide)]; exact h),fun h => by rw [upd_ne x _ (by decide)]; exact f2 (by rw [← getD_set_ne true (show 5 ≠ 2 by decide)]; exact h),fun h => by rw [upd_ne x _ (by decide)]; exact f3 (by rw [← getD_set_ne true (show 5 ≠ 3 by decide)]; exact h),fun h => by rw [upd_ne x _ (show 4 ≠ 5 by decide)]; exact f4 (by rw [← getD_set_ne true (show 5 ≠ 4 by decide)]; exact h),fun _ => upd_same _ _ _,fun h => by rw [upd_ne x _ (by decide)]; exact f6 (by rw [← getD_set_ne true (show 5 ≠ 6 by decide)]; exact h),fun h => by rw [upd_ne x _ (by decide)]; exact f7 (by rw [← getD_set_ne true (show 5 ≠ 7 by decide)]; exact h),fun h => by rw [upd_ne x _ (show 8 ≠ 5 by decide),upd_ne x _ (show 4 ≠ 5 by decide)]; exact f8 (by rw [← getD_set_ne true (show 5 ≠ 8 by decide)]; exact h),fun h => by obtain ⟨b0,hl0,hx0,⟨cs0,hz0,hk0⟩,hn0⟩:=f9 (by rw [← getD_set_ne true (show 5 ≠ 9 by decide)]; exact h); exact ⟨b0,hl0,by rw [upd_ne x _ (show 9 ≠ 5 by decide)]; exact hx0,⟨cs0,hz0,hk0⟩,fun h4 g hg => hn0 (by rw [← getD_set_ne true (show 5 ≠ 4 by decide)]; exact h4) g (by rw [upd_ne x _ (show 4 ≠ 5 by decide)] at hg; exact hg)⟩,fun h => by obtain ⟨b0,hl0,hx0,hk0,hn0⟩:=f10 (by rw [← getD_set_ne true (show 5 ≠ 10 by decide)]; exact h); rw [upd_ne x _ (show 9 ≠ 5 by decide),upd_ne x _ (show 4 ≠ 5 by decide)]; exact ⟨b0,hl0,hx0,hk0,hn0⟩⟩⟩
   ·refine wpOp_runs (v:=.pointer (some ⟨w.heap.size,3,none⟩)) rfl rfl (by simp [execOp,go_sem,t2]) ⟨_,_,rfl,rfl,⟨hBw,fun h => by rw [upd_ne x _ (by decide)]; exact f0 (by rw [← getD_set_ne true (show 6 ≠ 0 by decide)]; exact h),fun h => by rw [upd_ne x _ (by decide)]; exact f1 (by rw [← getD_set_ne true (show 6 ≠ 1 by decide)]; exact h),fun h => by rw [upd_ne x _ (by decide)]; exact f2 (by rw [← getD_set_ne true (show 6 ≠ 2 by decide)]; exact h),fun h => by rw [upd_ne x _ (by decide)]; exact f3 (by rw [← getD_set_ne true (show 6 ≠ 3 by decide)]; exact h),fun h => by rw [upd_ne x _ (show 4 ≠ 6 by decide)]; exact f4 (by rw [← getD_set_ne true (show 6 ≠ 4 by decide)]; exact h),fun h => by rw [upd_ne x _ (by decide)]; exact f5 (by rw [← getD_set_ne true (show 6 ≠ 5 by decide)]; exact h),fun _ => upd_same _ _ _,fun h => by rw [upd_ne x _ (by decide)]; exact f7 (by rw [← getD_set_ne true (show 6 ≠ 7 by decide)]; exact h),fun h => by rw [upd_ne x _ (show 8 ≠ 6 by decide),upd_ne x _ (show 4 ≠ 6 by decide)]; exact f8 (by rw [← getD_set_ne true (show 6 ≠ 8 by decide)]; exact h),fun h => by obtain ⟨b0,hl0,hx0,⟨cs0,hz0,hk0⟩,hn0⟩:=f9 (by rw [← getD_set_ne true (show 6 ≠ 9 by decide)]; exact h); exact ⟨b0,hl0,by rw [upd_ne x _ (show 9 ≠ 6 by decide)]; exact hx0,⟨cs0,hz0,hk0⟩,fun h4 g hg => hn0 (by rw [← getD_set_ne true (show 6 ≠ 4 by decide)]; exact h4) g (by rw [upd_ne x _ (show 4 ≠ 6 by decide)] at hg; exact hg)⟩,fun h => by obtain ⟨b0,hl0,hx0,hk0,hn0⟩:=f10 (by rw [← getD_set_ne true (show 6 ≠ 10 by decide)]; exact h); rw [upd_ne x _ (show 9 ≠ 6 by decide),upd_ne x _ (show 4 ≠ 6 by decide)]; exact ⟨b0,hl0,hx0,hk0,hn0⟩⟩⟩
   ·have d6:=getD_ft (haf _ rfl ⟨6,.data⟩ (by simp) rfl)
    have e33:b.eval (.tmp 33) = .pointer (some ⟨w.heap.size,3,none⟩):=by rw [hbe,eval_in _ _ _ 6 (by decide) rfl (by rw [hz]; decide)]; exact f6 d6
    have t33:=e33; simp only [Act.eval,Array.getD_eq_getD_getElem?] at t33
    have hp:=hP.below hBw hP.lt
    have p3:w'.cell? ⟨w.heap.size,3,none⟩ = some (.int .i64 p.ver):=hp.cell 3
    have lt_p:=hp.lt
    refine wpOp_runs (v:=.int .i64 p.ver) rfl rfl (by simp [execOp,go_sem,t33,p3,lt_p]) ⟨_,_,rfl,rfl,⟨hBw,fun h => by rw [upd_ne x _ (by decide)]; exact f0 (by rw [← getD_set_ne true (show 7 ≠ 0 by decide)]; exact h),fun h => by rw [upd_ne x _ (by decide)]; exact f1 (by rw [← getD_set_ne true (show 7 ≠ 1 by decide)]; exact h),fun h => by rw [upd_ne x _ (by decide)]; exact f2 (by rw [← getD_set_ne true (show 7 ≠ 2 by decide)]; exact h),fun h => by rw [upd_ne x _ (by decide)]; exact f3 (by rw [← getD_set_ne true (show 7 ≠ 3 by decide)]; exact h),fun h => by rw [upd_ne x _ (show 4 ≠ 7 by decide)]; exact f4 (by rw [← getD_set_ne true (show 7 ≠ 4 by decide)]; exact h),fun h => by rw [upd_ne x _ (by decide)]; exact f5 (by rw [← getD_set_ne true (show 7 ≠ 5 by decide)]; exact h),fun h => by rw [upd_ne x _ (by decide)]; exact f6 (by rw [← getD_set_ne true (show 7 ≠ 6 by decide)]; exact h),fun _ => upd_same _ _ _,fun h => by rw [upd_ne x _ (show 8 ≠ 7 by decide),upd_ne x _ (show 4 ≠ 7 by decide)]; exact f8 (by rw [← getD_set_ne true (show 7 ≠ 8 by decide)]; exact h),fun h => by obtain ⟨b0,hl0,hx0,⟨cs0,hz0,hk0⟩,hn0⟩:=f9 (by rw [← getD_set_ne true (show 7 ≠ 9 by decide)]; exact h); exact ⟨b0,hl0,by rw [upd_ne x _ (show 9 ≠ 7 by decide)]; exact hx0,⟨cs0,hz0,hk0⟩,fun h4 g hg => hn0 (by rw [← getD_set_ne true (show 7 ≠ 4 by decide)]; exact h4) g (by rw [upd_ne x _ (show 4 ≠ 7 by decide)] at hg; exact hg)⟩,fun h => by obtain ⟨b0,hl0,hx0,hk0,hn0⟩:=f10 (by rw [← getD_set_ne true (show 7 ≠ 10 by decide)]; exact h); rw [upd_ne x _ (show 9 ≠ 7 by decide),upd_ne x _ (show 4 ≠ 7 by decide)]; exact ⟨b0,hl0,hx0,hk0,hn0⟩⟩⟩
   ·have d0:=getD_ft (haf _ rfl ⟨0,.data⟩ (by simp) rfl)
    have d4:=getD_ft (haf _ rfl ⟨4,.data⟩ (by simp) rfl)
    have d5:=getD_ft (haf _ rfl ⟨5,.data⟩ (by simp) rfl)
    have d7:=getD_ft (haf _ rfl ⟨7,.data⟩ (by simp) rfl)
    obtain ⟨A6,c6,hx4⟩:∃ A6 c6,x 4 = .slice A6 nr c6:=slice_of_own' (f4 d4)
    have e27:b.eval (.tmp 27) = .slice A5 nl c5:=by rw [hbe,eval_in _ _ _ 0 (by decide) rfl (by rw [hz]; decide)]; exact f0 d0
    have e31:b.eval (.tmp 31) = .slice A6 nr c6:=by rw [hbe,eval_in _ _ _ 4 (by decide) rfl (by rw [hz]; decide)]; exact hx4
    have e32:b.eval (.tmp 32) = .int .i64 now:=by rw [hbe,eval_in _ _ _ 5 (by decide) rfl (by rw [hz]; decide)]; exact f5 d5
    have e34:b.eval (.tmp 34) = .int .i64 p.ver:=by rw [hbe,eval_in _ _ _ 7 (by decide) rfl (by rw [hz]; decide)]; exact f7 d7
    have t27:=e27; simp only [Act.eval,Array.getD_eq_getD_getElem?] at t27
    have t31:=e31; simp only [Act.eval,Array.getD_eq_getD_getElem?] at t31
    have t32:=e32; simp only [Act.eval,Array.getD_eq_getD_getElem?] at t32
    have t34:=e34; simp only [Act.eval,Array.getD_eq_getD_getElem?] at t34
    refine wpOp_runs (v:=.agg #[.slice A5 nl c5,.slice A6 nr c6,.int .i64 now,.int .i64 p.ver]) rfl rfl (by simp [execOp,go_sem,t27,t31,t32,t34]) ⟨_,_,rfl,rfl,⟨hBw,fun h => by rw [upd_ne x _ (by decide)]; exact f0 (by rw [← getD_set_ne true (show 8 ≠ 0 by decide)]; exact h),fun h => by rw [upd_ne x _ (by decide)]; exact f1 (by rw [← getD_set_ne true (show 8 ≠ 1 by decide)]; exact h),fun h => by rw [upd_ne x _ (by decide)]; exact f2 (by rw [← getD_set_ne true (show 8 ≠ 2 by decide)]; exact h),fun h => by rw [upd_ne x _ (by decide)]; exact f3 (by rw [← getD_set_ne true (show 8 ≠ 3 by decide)]; exact h),fun h => by rw [upd_ne x _ (show 4 ≠ 8 by decide)]; exact f4 (by rw [← getD_set_ne true (show 8 ≠ 4 by decide)]; exact h),fun h => by rw [upd_ne x _ (by decide)]; exact f5 (by rw [← getD_set_ne true (show 8 ≠ 5 by decide)]; exact h),fun h => by rw [upd_ne x _ (by decide)]; exact f6 (by rw [← getD_set_ne true (show 8 ≠ 6 by decide)]; exact h),fun h => by rw [upd_ne x _ (by decide)]; exact f7 (by rw [← getD_set_ne true (show 8 ≠ 7 by decide)]; exact h),fun _ => by rw [upd_same,upd_ne x _ (show 4 ≠ 8 by decide),hx4],fun h => by obtain ⟨b0,hl0,hx0,⟨cs0,hz0,hk0⟩,hn0⟩:=f9 (by rw [← getD_set_ne true (show 8 ≠ 9 by decide)]; exact h); exact ⟨b0,hl0,by rw [upd_ne x _ (show 9 ≠ 8 by decide)]; exact hx0,⟨cs0,hz0,hk0⟩,fun h4 g hg => hn0 (by rw [← getD_set_ne true (show 8 ≠ 4 by decide)]; exact h4) g (by rw [upd_ne x _ (show 4 ≠ 8 by decide)] at hg; exact hg)⟩,fun h => absurd (getD_ft (hcl 10 _ rfl (by rw [← getD_set_ne true (show 8 ≠ 10 by decide)]; exact h) ⟨8,.data⟩ (by simp) rfl)) (by rw [hun]; decide)⟩⟩
   ·have hb:Below w'.heap.size w' (w'.alloc (.cells #[.slice none 0 0,.slice none 0 0,.int .i64 0,.int .i64 0] 25)):=by (repeat (first | exact Below.refl _ _ | refine Below.alloc ?_ (by first | omega | (simp; done) | (simp; omega)) _ | refine Below.setCell ?_ (by first | omega | (simp; done) | (simp; omega)) _ | refine Below.drew ?_))
    have hbs:=hBw.size
    refine wpOp_runs (v:=.pointer (some ⟨w'.heap.size,0,none⟩)) (w':=w'.alloc (.cells #[.slice none 0 0,.slice none 0 0,.int .i64 0,.int .i64 0] 25)) rfl rfl (by simp [execOp,go_sem]) ⟨_,_,rfl,rfl,⟨hBw.trans (hb.mono hBw.size),fun h => by rw [upd_ne x _ (by decide)]; exact f0 (by rw [← getD_set_ne true (show 9 ≠ 0 by decide)]; exact h),fun h => by rw [upd_ne x _ (by decide)]; exact f1 (by rw [← getD_set_ne true (show 9 ≠ 1 by decide)]; exact h),fun h => by rw [upd_ne x _ (by decide)]; exact f2 (by rw [← getD_set_ne true (show 9 ≠ 2 by decide)]; exact h),fun h => by rw [upd_ne x _ (by decide)]; exact f3 (by rw [← getD_set_ne true (show 9 ≠ 3 by decide)]; exact h),fun h => by rw [upd_ne x _ (show 4 ≠ 9 by decide)]; exact own_below (f4 (by rw [← getD_set_ne true (show 9 ≠ 4 by decide)]; exact h)) hb,fun h => by rw [upd_ne x _ (by decide)]; exact f5 (by rw [← getD_set_ne true (show 9 ≠ 5 by decide)]; exact h),fun h => by rw [upd_ne x _ (by decide)]; exact f6 (by rw [← getD_set_ne true (show 9 ≠ 6 by decide)]; exact h),fun h => by rw [upd_ne x _ (by decide)]; exact f7 (by rw [← getD_set_ne true (show 9 ≠ 7 by decide)]; exact h),fun h => by rw [upd_ne x _ (show 8 ≠ 9 by decide),upd_ne x _ (show 4 ≠ 9 by decide)]; exact f8 (by rw [← getD_set_ne true (show 9 ≠ 8 by decide)]; exact h),fun _ => ⟨w'.heap.size,hbs,upd_same _ _ _,⟨_,rfl,Blok.new _ _ _⟩,fun h4 g hg => by rw [upd_ne x _ (show 4 ≠ 9 by decide)] at hg; have:=((f4 (by rw [← getD_set_ne true (show 9 ≠ 4 by decide)]; exact h4)).lt g hg).2; omega⟩,fun h => absurd (getD_ft (hcl 10 _ rfl (by rw [← getD_set_ne true (show 9 ≠ 10 by decide)]; exact h) ⟨9,.data⟩ (by simp) rfl)) (by rw [hun]; decide)⟩⟩
   ·have d9:=getD_ft (haf _ rfl ⟨9,.data⟩ (by simp) rfl)
    have d8:=getD_ft (haf _ rfl ⟨8,.data⟩ (by simp) rfl)
    have d4:=getD_ft (hcl 8 _ rfl d8 ⟨4,.data⟩ (by simp) rfl)
    obtain ⟨b9,hl9,hx9,⟨c9,hz9,hk9⟩,hn9⟩:=f9 d9
    obtain ⟨A6,c6,hx4⟩:∃ A6 c6,x 4 = .slice A6 nr c6:=slice_of_own' (f4 d4)
    have e9:b.eval (.tmp 9) = .pointer (some ⟨b9,0,none⟩):=by rw [hbe,eval_in _ _ _ 9 (by decide) rfl (by rw [hz]; decide)]; exact hx9
    have e35:b.eval (.tmp 35) = .agg #[.slice A5 nl c5,x 4,.int .i64 now,.int .i64 p.ver]:=by rw [hbe,eval_in _ _ _ 8 (by decide) rfl (by rw [hz]; decide)]; exact f8 d8
    refine wpOp_of rfl ?_
    rw [if_pos (by simp [Region.wanted])]
    refine wp_store_mid 25 (.tmp 9) (.tmp 35) rfl b9 0 #[.slice A5 nl c5,x 4,.int .i64 now,.int .i64 p.ver] e9 e35 ?_ (by kernel_rfl) (by rw [hx4]; simp [Value.oneCell']) ?_
    ·intro j hj
     rw [Nat.zero_add]
     refine ⟨?_,hk9.free j⟩
     rw [hk9.cell j]
     have:j < c9.size:=by simp at hj; omega
     simp [this]
    ·refine ⟨_,_,rfl,rfl,⟨set_below b9 hl9 _ _ hBw,fun h => by rw [upd_ne x _ (by decide)]; exact f0 (by rw [← getD_set_ne true (show 10 ≠ 0 by decide)]; exact h),fun h => by rw [upd_ne x _ (by decide)]; exact f1 (by rw [← getD_set_ne true (show 10 ≠ 1 by decide)]; exact h),fun h => by rw [upd_ne x _ (by decide)]; exact f2 (by rw [← getD_set_ne true (show 10 ≠ 2 by decide)]; exact h),fun h => by rw [upd_ne x _ (by decide)]; exact f3 (by rw [← getD_set_ne true (show 10 ≠ 3 by decide)]; exact h),fun h => by rw [upd_ne x _ (show 4 ≠ 10 by decide)]; exact own_other (f4 (by rw [← getD_set_ne true (show 10 ≠ 4 by decide)]; exact h)) (grown_sets _ _ _) (fun q hq => hn9 d4 q hq),fun h => by rw [upd_ne x _ (by decide)]; exact f5 (by rw [← getD_set_ne true (show 10 ≠ 5 by decide)]; exact h),fun h => by rw [upd_ne x _ (by decide)]; exact f6 (by rw [← getD_set_ne true (show 10 ≠ 6 by decide)]; exact h),fun h => by rw [upd_ne x _ (by decide)]; exact f7 (by rw [← getD_set_ne true (show 10 ≠ 7 by decide)]; exact h),fun h => by rw [upd_ne x _ (show 8 ≠ 10 by decide),upd_ne x _ (show 4 ≠ 10 by decide)]; exact f8 (by rw [← getD_set_ne true (show 10 ≠ 8 by decide)]; exact h),fun h => ⟨b9,hl9,by rw [upd_ne x _ (show 9 ≠ 10 by decide)]; exact hx9,⟨_,rfl,set_whole hk9 (by rw [hz9]; rfl)⟩,fun _ g hg => by rw [upd_ne x _ (show 4 ≠ 10 by decide)] at hg; exact hn9 d4 g hg⟩,fun _ => ⟨b9,hl9,by rw [upd_ne x _ (show 9 ≠ 10 by decide)]; exact hx9,by rw [upd_ne x _ (show 4 ≠ 10 by decide)]; exact set_whole hk9 (by rw [hz9]; rfl),fun g hg => by rw [upd_ne x _ (show 4 ≠ 10 by decide)] at hg; exact hn9 d4 g hg⟩⟩⟩
  intro V x w' hall hF
  obtain ⟨hb,f0,f1,f2,f3,f4,f5,f6,f7,f8,f9,f10⟩:=hF
  obtain ⟨bN,hbN,hx9,hN,hne⟩:=f10 (hall 10 (by decide))
  have ho4:=f4 (hall 4 (by decide))
  have hx8:=f8 (hall 8 (by decide))
  obtain ⟨A6,c6,hx4⟩:∃ A6 c6,x 4 = .slice A6 nr c6:=slice_of_own' ho4
  rw [hx4] at hN hne ho4
  clear f0 f1 f2 f3 f4 f5 f6 f7 f8 f9 f10 hall hx8 hx4
  have hbl:w.heap.size + 1 < w5.heap.size:=hR.lt
  have hvb:∀ g,(Value.slice A5 nl c5).ownBlock = some g → g ≠ bN:=fun g hg => by have:=(hv.lt g hg).2; omega
  have hub:∀ g,(Value.slice A7 ng c7).ownBlock = some g → g ≠ bN:=fun g hg => by have:=(hu.lt g hg).2; omega
  subst ha0
  replace hP:=hP.below hb hP.lt
  replace hR:=hR.below hb hR.lt
  replace hv:=own_below hv hb
  replace hu:=own_below hu hb
  replace hB:=hB.trans (hb.mono hs)
  replace hs:=hB.size
  clear hb
  simp only [List.map_cons,List.map_nil,putAll,hx9]
  clear hx9
  go_simp
  by_cases hcl:now = p.clk
  ·have g3:(now != p.clk) = false:=by simp [hcl]
   obtain rfl:p.ver = nv:=by rw [← HNV.out,if_pos hcl]
   clear hcl
   have p2:w'.cell? ⟨w.heap.size,2,none⟩ = some (.int .i64 p.clk):=hP.cell 2
   have lt_p:=hP.lt
   obtain ⟨n_0,n_1,n_2,n_3,lt_n_⟩:=blok4 (show Blok _ _ _ #[.slice A5 nl c5,.slice A6 nr c6,.int .i64 now,.int .i64 p.ver] from hN)
   obtain ⟨nf_0,nf_1,nf_2,nf_3⟩:=free4 hN
   obtain ⟨r0,r1,r2,r3,lt_x⟩:=blok4 hR
   obtain ⟨f_0,f_1,f_2,f_3⟩:=free4 hR
   have HX:=Lib.hid hR
   clear hR
   go_wp2_with fail
   have hX:=HX.out
   clear n_0 n_1 n_2 n_3 nf_0 nf_1 nf_2 nf_3 lt_n_
   clear r0 r1 r2 r3
   obtain ⟨hF,hWf,hgw⟩:=ret4 (show Blok _ _ _ #[_,_,_,_] from hX) hB (show w.heap.size ≤ (w.heap.size + 1) by first | exact Nat.le_refl _ | omega) (.slice A5 nl c5) (.slice A6 nr c6) (.int .i64 now) (.int .i64 p.ver)
   have hlF:=hF.lt
   generalize (((w'.setCell ⟨(w.heap.size + 1),0,none⟩ (.slice A5 nl c5)).setCell ⟨(w.heap.size + 1),1,none⟩ (.slice A6 nr c6)).setCell ⟨(w.heap.size + 1),2,none⟩ (.int .i64 now)).setCell ⟨(w.heap.size + 1),3,none⟩ (.int .i64 p.ver) = wf at *
   obtain ⟨r0,r1,r2,r3,_⟩:=blok4 hF
   refine bodyPost_ret (v:=.tuple #[.agg #[.slice A5 nl c5,.slice A6 nr c6,.int .i64 now,.int .i64 p.ver],.slice A7 ng c7,.int .i64 0]) (by simp [results,Tryz.results26,go_sem,r0,r1,r2,r3,hlF]) rfl ?_
   have h1f:=own_far hv hgw (fun g hg => by injection hg with hg; omega)
   have h2f:=own_far hu hgw (fun g hg => by injection hg with hg; omega)
   have h3f:=own_far ho4 hgw (fun g hg => by injection hg with hg; omega)
   have hle1:=HNL.out
   have hle2:=HNR.out
   exact ⟨A5,nl,c5,A6,nr,c6,A7,ng,c7,by rw [E1.out,E2.out],by rw [E1.out]; exact ⟨hle1,hle2,by omega,by omega,own_down h1f (by omega),own_down (show _ from by rw [HRL.out] ; exact h3f) (by omega)⟩,by rw [E3.out,sortI_length]; exact HNG.out,by rw [E3.out]; exact own_down h2f (by omega),hWf⟩
  ·have g3:(now != p.clk) = true:=by simp [hcl]
   have hnv2:min (p.ver + 1) 1099511627776 = nv:=by rw [← HNV.out,if_neg hcl]
   clear hcl
   have t0:IntKind.i64.wrap (p.ver + 1) = p.ver + 1:=by rw [IntWalk.i64_in _ (by omega)]
   have p2:w'.cell? ⟨w.heap.size,2,none⟩ = some (.int .i64 p.clk):=hP.cell 2
   have p3:w'.cell? ⟨w.heap.size,3,none⟩ = some (.int .i64 p.ver):=hP.cell 3
   have lt_p:=hP.lt
   have hbl2:bN < w'.heap.size:=hN.lt
   obtain ⟨n_0,n_1,n_2,n_3,lt_n_⟩:=blok4 (show Blok _ _ _ #[.slice A5 nl c5,.slice A6 nr c6,.int .i64 now,.int .i64 p.ver] from hN)
   obtain ⟨nf_0,nf_1,nf_2,nf_3⟩:=free4 hN
   go_upto_region 7 with fail
   clear n_0 n_1 n_2 n_3 nf_0 nf_1 nf_2 nf_3 lt_n_
   clear p2 p3 lt_p
   replace hN:=hN.set_ 3 (.int .i64 nv)
   replace hR:=hR.far (p:=⟨bN,3,none⟩) (by show w.heap.size + 1 ≠ bN; omega) (.int .i64 nv)
   replace hB:=hB.setCell (p:=⟨bN,3,none⟩) (by show w.heap.size ≤ bN; omega) (.int .i64 nv)
   replace hv:=own_other hv (grown_set (g:=bN) w' 3 (.int .i64 nv)) hvb
   replace hu:=own_other hu (grown_set (g:=bN) w' 3 (.int .i64 nv)) hub
   replace ho4:=own_other ho4 (grown_set (g:=bN) w' 3 (.int .i64 nv)) hne
   clear hP hs t0
   generalize w'.setCell ⟨bN,3,none⟩ (.int .i64 nv) = w6 at *
   obtain ⟨n_0,n_1,n_2,n_3,lt_n_⟩:=blok4 (show Blok _ _ _ #[.slice A5 nl c5,.slice A6 nr c6,.int .i64 now,.int .i64 nv] from hN)
   obtain ⟨nf_0,nf_1,nf_2,nf_3⟩:=free4 hN
   obtain ⟨r0,r1,r2,r3,lt_x⟩:=blok4 hR
   obtain ⟨f_0,f_1,f_2,f_3⟩:=free4 hR
   have HX:=Lib.hid hR
   clear hR
   go_wp2_with fail
   have hX:=HX.out
   clear n_0 n_1 n_2 n_3 nf_0 nf_1 nf_2 nf_3 lt_n_
   clear r0 r1 r2 r3
   obtain ⟨hF,hWf,hgw⟩:=ret4 (show Blok _ _ _ #[_,_,_,_] from hX) hB (show w.heap.size ≤ (w.heap.size + 1) by first | exact Nat.le_refl _ | omega) (.slice A5 nl c5) (.slice A6 nr c6) (.int .i64 now) (.int .i64 nv)
   have hlF:=hF.lt
   generalize (((w6.setCell ⟨(w.heap.size + 1),0,none⟩ (.slice A5 nl c5)).setCell ⟨(w.heap.size + 1),1,none⟩ (.slice A6 nr c6)).setCell ⟨(w.heap.size + 1),2,none⟩ (.int .i64 now)).setCell ⟨(w.heap.size + 1),3,none⟩ (.int .i64 nv) = wf at *
   obtain ⟨r0,r1,r2,r3,_⟩:=blok4 hF
   refine bodyPost_ret (v:=.tuple #[.agg #[.slice A5 nl c5,.slice A6 nr c6,.int .i64 now,.int .i64 nv],.slice A7 ng c7,.int .i64 0]) (by simp [results,Tryz.results26,go_sem,r0,r1,r2,r3,hlF]) rfl ?_
   have h1f:=own_far hv hgw (fun g hg => by injection hg with hg; omega)
   have h2f:=own_far hu hgw (fun g hg => by injection hg with hg; omega)
   have h3f:=own_far ho4 hgw (fun g hg => by injection hg with hg; omega)
   have hle1:=HNL.out
   have hle2:=HNR.out
   exact ⟨A5,nl,c5,A6,nr,c6,A7,ng,c7,by rw [E1.out,E2.out],by rw [E1.out]; exact ⟨hle1,hle2,by omega,by omega,own_down h1f (by omega),own_down (show _ from by rw [HRL.out] ; exact h3f) (by omega)⟩,by rw [E3.out,sortI_length]; exact HNG.out,by rw [E3.out]; exact own_down h2f (by omega),hWf⟩
end Go.Proofs.YtolaabllhibkdaaGreat
