/- Several texts of mine in one: Ref08c, Ref08d. No condition. -/
import Derived.Test.YtolaabllhibkdaaGreatGO
import Derived.Test.YtolaabllhibkdaaGreatRef06f
import Derived.Test.YtolaabllhibkdaaGreatGV
import Derived.Test.YtolaabllhibkdaaGreatRef08b
import Derived.Test.YtolaabllhibkdaaGreatPlan5
import Derived.Test.YtolaabllhibkdaaGreatRef04s

/- What the document's own lists leave is what the program's leave, where they are right. -/
namespace Go.Proofs.YtolaabllhibkdaaGreat
theorem addL_eq {d:List Co} {r:Co} (hr:Kc.rightC d = true):Kc.addL d r = addT d r:=by
 by_cases hm:Kc.mayC d r = 0
 ·rw [Kc.addL_yes hm,addT_yes hr hm (Kc.lastC_le d r d.length) (Kc.lastC_at d r _) (Kc.lastC_end r)]
 ·rw [Kc.addL_no hm]; unfold addT; rw [if_neg hm]
theorem delL_eq (d:List Co) (id:Int):Kc.keepC d id = delT d id:=rfl
theorem chgL_eq (d:List Co) (id rt:Int):Kc.chgL d id rt = chgT d id rt:=rfl
theorem chgQ_eq (d:List Co) (id rt:Int):Kc.chgQ d id rt = chgTq d id rt:=rfl
theorem addRl_eq {d:List Rg} {r:Rg} (hr:Kr.rightB d = true):Kr.addRl d r = addU d r:=by
 by_cases hm:Kr.mayF d r = 0
 ·rw [Kr.addRl_yes hm,addU_yes hr hm (Kr.lastR_le d r d.length) (Kr.lastR_at d r _) (Kr.lastR_end r)]
 ·rw [Kr.addRl_no hm]; unfold addU; rw [if_neg hm]
theorem plR_some {d:List Rg} {r:Rg} {k:Nat} (h:Kr.plR d r = some k):∃ hk:k < d.length,Kr.sameR d[k] r = true ∧ ∀ j (hj:j < k),Kr.sameR (d[j]'(by omega)) r = false:=by
 unfold Kr.plR at h
 rw [List.findIdx?_eq_some_iff_getElem] at h
 obtain ⟨hk,hs,hb⟩:=h
 exact ⟨hk,hs,fun j hj => by simpa using hb j hj⟩
theorem plR_none {d:List Rg} {r:Rg} (h:Kr.plR d r = none):∀ x ∈ d,Kr.sameR x r = false:=by
 unfold Kr.plR at h
 rw [List.findIdx?_eq_none_iff] at h
 exact h
theorem any_none {d:List Rg} {r:Rg} (h:Kr.plR d r = none):d.any (fun x => Kr.sameR x r) = false:=by
 rw [List.any_eq_false]; intro x hx; rw [plR_none h x hx]; simp
theorem any_some {d:List Rg} {r:Rg} {k:Nat} (h:Kr.plR d r = some k):d.any (fun x => Kr.sameR x r) = true:=by
 obtain ⟨hk,hs,_⟩:=plR_some h
 exact List.any_eq_true.2 ⟨_,List.getElem_mem hk,hs⟩
theorem chgRl_eq (d:List Rg) (r:Rg):Kr.chgRl d r = chgU d r:=by
 unfold Kr.chgRl chgU
 by_cases h:inB r.ow 0 2147483647 = true
 ·rw [if_pos h]
  cases hp:Kr.plR d r with
  | none => rw [if_neg (by rw [any_none hp]; simp)]
  | some k =>
   obtain ⟨hk,hs,hb⟩:=plR_some hp
   have hx:d.findIdx (fun x => Kr.sameR x r) = k:=first_at (fun x => Kr.sameR x r) hk (fun j _ hj => hb j hj) hs
   rw [if_pos ⟨h,any_some hp⟩,hx]
 ·rw [if_neg h,if_neg (fun e => h e.1)]
theorem chgRq_eq (d:List Rg) (r:Rg):Kr.chgRq d r = chgUq d r:=by
 unfold Kr.chgRq chgUq
 by_cases h:inB r.ow 0 2147483647 = true
 ·rw [if_pos h,if_neg (by rw [h]; simp)]
  cases hp:Kr.plR d r with
  | none => rw [if_neg (by rw [any_none hp]; simp)]
  | some k => rw [if_pos (any_some hp)]
 ·rw [if_neg h,if_pos (by simpa using h)]
theorem same_one {d:List Rg} {r:Rg} (hr:Kr.rightB d = true) {i j:Nat} (hij:i < j) (hj:j < d.length) (h1:Kr.sameR (gRg d i) r = true):Kr.sameR (gRg d j) r = false:=by
 cases h2:Kr.sameR (gRg d j) r with
 | false => rfl
 | true =>
  have hl:=rightR_lt hr hij hj
  unfold Kr.sameR at h1 h2
  rw [decide_eq_true_eq] at h1 h2
  obtain ⟨a1,a2,a3⟩:=h1
  obtain ⟨b1,b2,b3⟩:=h2
  unfold Kr.ltR at hl
  omega
theorem delRl_eq {d:List Rg} {r:Rg} (hr:Kr.rightB d = true):Kr.delRl d r = delU d r:=by
 unfold Kr.delRl delU
 cases hp:Kr.plR d r with
 | none =>
  refine (List.filter_eq_self.2 (fun x hx => ?_)).symm
  rw [plR_none hp x hx]; rfl
 | some k =>
  obtain ⟨hk,hs,hb⟩:=plR_some hp
  have hd:d.filter (fun x => !Kr.sameR x r) = (d.take k ++ d[k] :: d.drop (k + 1)).filter (fun x => !Kr.sameR x r):=by rw [← List.drop_eq_getElem_cons hk,List.take_append_drop]
  rw [hd,List.filter_append,List.filter_cons,if_neg (by rw [hs]; simp)]
  have h1:(d.take k).filter (fun x => !Kr.sameR x r) = d.take k:=by
   refine List.filter_eq_self.2 (fun x hx => ?_)
   obtain ⟨j,hj,rfl⟩:=List.getElem_of_mem hx
   rw [List.length_take] at hj
   rw [List.getElem_take,hb j (by omega)]; rfl
  have h2:(d.drop (k + 1)).filter (fun x => !Kr.sameR x r) = d.drop (k + 1):=by
   refine List.filter_eq_self.2 (fun x hx => ?_)
   obtain ⟨j,hj,rfl⟩:=List.getElem_of_mem hx
   rw [List.length_drop] at hj
   have hh:=same_one hr (r:=r) (i:=k) (j:=k + 1 + j) (by omega) (by omega) (by rw [Kr.gRg_elem hk]; exact hs)
   rw [Kr.gRg_elem (by omega)] at hh
   rw [List.getElem_drop,hh]; rfl
  rw [h1,h2]
theorem delRq_eq {d:List Rg} {r:Rg} (hr:Kr.rightB d = true):Kr.delRq d r = delUq d r:=by
 have he:=delRl_eq (r:=r) hr
 unfold Kr.delRq delUq
 rw [← he]
 unfold Kr.delRl
 cases hp:Kr.plR d r with
 | none => rw [if_pos rfl]
 | some k =>
  obtain ⟨hk,_,_⟩:=plR_some hp
  rw [if_neg (by rw [List.length_append,List.length_take,List.length_drop]; omega)]
end Go.Proofs.YtolaabllhibkdaaGreat

/- The document's own plans: Apply. -/
namespace Go.Proofs.YtolaabllhibkdaaGreat
open Go.ChangeShapes Go.WideShapes Go.ChangeAt Go.RowKit Go.Sort
set_option linter.unusedSimpArgs false
set_option linter.unusedVariables false
set_option maxHeartbeats 16000000 in
set_option maxRecDepth 100000 in
theorem rpapply_any (A1:Option Addr) (n1 c1:Nat) (A:Option Addr) (n c:Nat) (p:Pl) (d:Dr) (w:World) (h:PlAt w A1 n1 c1 A n c p) (hr:p.right = true) :
  Calls Tryz.prog 24 #[.agg #[.slice A1 n1 c1,.slice A n c,.int .i64 p.clk,.int .i64 p.ver],.agg #[.int .i64 d.op,.int .i64 d.kd,.int .i64 d.id,.int .i64 d.fr,.int .i64 d.tn,.int .i64 d.st,.int .i64 d.en,.int .i64 d.rt,.int .i64 d.rf,.int .i64 d.rn,.int .i64 d.rs,.int .i64 d.re,.int .i64 d.ro]] w (ApplyRet p d w):=by
 have hB:Below w.heap.size w (((w.alloc (.cells #[.slice A1 n1 c1,.slice A n c,.int .i64 p.clk,.int .i64 p.ver] 25)).alloc (.cells #[.int .i64 d.op,.int .i64 d.kd,.int .i64 d.id,.int .i64 d.fr,.int .i64 d.tn,.int .i64 d.st,.int .i64 d.en,.int .i64 d.rt,.int .i64 d.rf,.int .i64 d.rn,.int .i64 d.rs,.int .i64 d.re,.int .i64 d.ro] 37)).alloc (.cells #[.slice none 0 0,.slice none 0 0,.int .i64 0,.int .i64 0] 25)):=by (repeat (first | exact Below.refl _ _ | refine Below.alloc ?_ (by first | omega | (simp; done) | (simp; omega)) _ | refine Below.setCell ?_ (by first | omega | (simp; done) | (simp; omega)) _ | refine Below.drew ?_))
 have hP:=((Blok.new w 25 #[.slice A1 n1 c1,.slice A n c,.int .i64 p.clk,.int .i64 p.ver]).alloc (.cells #[.int .i64 d.op,.int .i64 d.kd,.int .i64 d.id,.int .i64 d.fr,.int .i64 d.tn,.int .i64 d.st,.int .i64 d.en,.int .i64 d.rt,.int .i64 d.rf,.int .i64 d.rn,.int .i64 d.rs,.int .i64 d.re,.int .i64 d.ro] 37)).alloc (.cells #[.slice none 0 0,.slice none 0 0,.int .i64 0,.int .i64 0] 25)
 have hD:=(Blok.new (w.alloc (.cells #[.slice A1 n1 c1,.slice A n c,.int .i64 p.clk,.int .i64 p.ver] 25)) 37 #[.int .i64 d.op,.int .i64 d.kd,.int .i64 d.id,.int .i64 d.fr,.int .i64 d.tn,.int .i64 d.st,.int .i64 d.en,.int .i64 d.rt,.int .i64 d.rf,.int .i64 d.rn,.int .i64 d.rs,.int .i64 d.re,.int .i64 d.ro]).alloc (.cells #[.slice none 0 0,.slice none 0 0,.int .i64 0,.int .i64 0] 25)
 have hR:=Blok.new ((w.alloc (.cells #[.slice A1 n1 c1,.slice A n c,.int .i64 p.clk,.int .i64 p.ver] 25)).alloc (.cells #[.int .i64 d.op,.int .i64 d.kd,.int .i64 d.id,.int .i64 d.fr,.int .i64 d.tn,.int .i64 d.st,.int .i64 d.en,.int .i64 d.rt,.int .i64 d.rf,.int .i64 d.rn,.int .i64 d.rs,.int .i64 d.re,.int .i64 d.ro] 37)) 25 #[.slice none 0 0,.slice none 0 0,.int .i64 0,.int .i64 0]
 simp only [World.size_alloc] at hD hR
 have HO:=Lib.hid h
 replace h:=h.up hB
 have hs:=hB.size
 have HRP:=Lib.hid (Pl.right_spec.1 hr)
 have HRR:=Lib.hid (stepP_right (d:=d) hr)
 obtain ⟨rd,hrd⟩:∃ x,rightD d = x:=⟨_,rfl⟩
 have HRD:=Lib.hid hrd
 clear hr hrd
 go_enter Tryz.func24,Tryz.ntmps24
 go_upto_region 1 with fail
 generalize ((w.alloc (.cells #[.slice A1 n1 c1,.slice A n c,.int .i64 p.clk,.int .i64 p.ver] 25)).alloc (.cells #[.int .i64 d.op,.int .i64 d.kd,.int .i64 d.id,.int .i64 d.fr,.int .i64 d.tn,.int .i64 d.st,.int .i64 d.en,.int .i64 d.rt,.int .i64 d.rf,.int .i64 d.rn,.int .i64 d.rs,.int .i64 d.re,.int .i64 d.ro] 37)).alloc (.cells #[.slice none 0 0,.slice none 0 0,.int .i64 0,.int .i64 0] 25) = w0 at *
 obtain ⟨p0,p1,p2,p3,lt_p⟩:=blok4 (show Blok _ _ _ #[.slice A1 n1 c1,.slice A n c,.int .i64 p.clk,.int .i64 p.ver] from hP)
 go_wp2_with fail
 clear p0 p1 p2 p3 lt_p
 refine (rpcopy_any A1 n1 c1 A n c p w0 h).mono ?_
 rintro e w1 ⟨A2,c2,A3,c3,rfl,hown,hb⟩
 have hR0:=hR.lt
 replace hown:=hown.down (b':=w.heap.size + 3) (by omega)
 replace h:=h.up hb
 replace hP:=hP.below hb hP.lt
 replace hD:=hD.below hb hD.lt
 replace hR:=hR.below hb hR.lt
 replace hB:=hB.trans (hb.mono hs)
 replace hs:=hB.size
 clear hb
 go_upto_region 2 with fail
 have hN:=Blok.new w1 25 #[.slice A2 n1 c2,.slice A3 n c3,.int .i64 p.clk,.int .i64 p.ver]
 have hb:Below w1.heap.size w1 (w1.alloc (.cells #[.slice A2 n1 c2,.slice A3 n c3,.int .i64 p.clk,.int .i64 p.ver] 25)):=by (repeat (first | exact Below.refl _ _ | refine Below.alloc ?_ (by first | omega | (simp; done) | (simp; omega)) _ | refine Below.setCell ?_ (by first | omega | (simp; done) | (simp; omega)) _ | refine Below.drew ?_))
 have hnl:w.heap.size + 1 + 1 < w1.heap.size:=hR.lt
 replace hown:=hown.below hb
 replace h:=h.up hb
 replace hP:=hP.below hb hP.lt
 replace hD:=hD.below hb hD.lt
 replace hR:=hR.below hb hR.lt
 replace hB:=hB.trans (hb.mono hs)
 replace hs:=hB.size
 clear hb
 generalize w1.alloc (.cells #[.slice A2 n1 c2,.slice A3 n c3,.int .i64 p.clk,.int .i64 p.ver] 25) = w2 at *
 obtain ⟨bN,hbN⟩:∃ x,w1.heap.size = x:=⟨_,rfl⟩
 rw [hbN] at hN hnl
 rw [hbN]
 clear hbN hR0
 obtain ⟨y0,y1,y2,y3,y4,y5,y6,y7,y8,y9,y10,y11,y12,lt_y⟩:=blok13 hD
 go_wp2_with fail
 clear y0 y1 y2 y3 y4 y5 y6 y7 y8 y9 y10 y11 y12 lt_y
 refine (rr04_any d w2 rd HRD.out).mono ?_
 rintro e w3 ⟨rfl,hb⟩
 replace hown:=hown.below hb
 replace h:=h.up hb
 replace hP:=hP.below hb hP.lt
 replace hD:=hD.below hb hD.lt
 replace hR:=hR.below hb hR.lt
 replace hN:=hN.below hb hN.lt
 replace hB:=hB.trans (hb.mono hs)
 replace hs:=hB.size
 clear hb
 cases rd
 ·have HQ:=Lib.hid (show stepQ p d = 1 by unfold stepQ; rw [if_pos HRD.out])
  obtain ⟨n_0,n_1,n_2,n_3,lt_n_⟩:=blok4 (show Blok _ _ _ #[.slice A2 n1 c2,.slice A3 n c3,.int .i64 p.clk,.int .i64 p.ver] from hN)
  obtain ⟨nf_0,nf_1,nf_2,nf_3⟩:=free4 hN
  obtain ⟨r0,r1,r2,r3,lt_x⟩:=blok4 hR
  obtain ⟨f_0,f_1,f_2,f_3⟩:=free4 hR
  have HX:=Lib.hid hR
  clear hR
  go_wp2_with fail
  have hX:=HX.out
  clear n_0 n_1 n_2 n_3 nf_0 nf_1 nf_2 nf_3 lt_n_
  clear r0 r1 r2 r3
  obtain ⟨hF,hWf,hgw⟩:=ret4 (show Blok _ _ _ #[_,_,_,_] from hX) hB (show w.heap.size ≤ (w.heap.size + 1 + 1) by first | exact Nat.le_refl _ | omega) (.slice A2 n1 c2) (.slice A3 n c3) (.int .i64 p.clk) (.int .i64 p.ver)
  have hlF:=hF.lt
  generalize (((w3.setCell ⟨(w.heap.size + 1 + 1),0,none⟩ (.slice A2 n1 c2)).setCell ⟨(w.heap.size + 1 + 1),1,none⟩ (.slice A3 n c3)).setCell ⟨(w.heap.size + 1 + 1),2,none⟩ (.int .i64 p.clk)).setCell ⟨(w.heap.size + 1 + 1),3,none⟩ (.int .i64 p.ver) = wf at *
  obtain ⟨r0,r1,r2,r3,_⟩:=blok4 hF
  refine bodyPost_ret (v:=.tuple #[.agg #[.slice A2 n1 c2,.slice A3 n c3,.int .i64 p.clk,.int .i64 p.ver],.int .i64 1]) (by simp [results,Tryz.results24,go_sem,r0,r1,r2,r3,hlF]) rfl ?_
  have hpe:=stepP_no HQ.out (by decide)
  exact ⟨A2,n1,c2,A3,n,c3,by rw [hpe,HQ.out],by rw [hpe]; exact ⟨HO.out.l1,HO.out.l,HO.out.b1,HO.out.b,own_down (own_far hown.o1 hgw (fun g hg => by injection hg with hg; omega)) (by omega),own_down (own_far hown.o hgw (fun g hg => by injection hg with hg; omega)) (by omega)⟩,hWf⟩
 ·by_cases hop:d.op = 1
  ·have g1:(d.op == 1) = true:=by simp [hop]
   have HOP:=Lib.hid hop
   clear hop
   by_cases hk:d.kd = 1
   ·have g2:(d.kd == 1) = true:=by simp [hk]
    have HK:=Lib.hid hk
    clear hk
    have hE:endD d = d.en:=by unfold endD; rw [if_pos HK.out]
    by_cases hpp:d.en ≤ p.clk
    ·have g3:decide (d.en ≤ p.clk) = true:=decide_eq_true hpp
     have HQ:=Lib.hid (show stepQ p d = 7 by unfold stepQ; rw [if_neg (by rw [HRD.out]; simp),if_pos ⟨HOP.out,by rw [hE]; exact hpp⟩])
     clear hpp hE
     obtain ⟨p0,p1,p2,p3,lt_p⟩:=blok4 (show Blok _ _ _ #[.slice A1 n1 c1,.slice A n c,.int .i64 p.clk,.int .i64 p.ver] from hP)
     obtain ⟨y0,y1,y2,y3,y4,y5,y6,y7,y8,y9,y10,y11,y12,lt_y⟩:=blok13 hD
     obtain ⟨n_0,n_1,n_2,n_3,lt_n_⟩:=blok4 (show Blok _ _ _ #[.slice A2 n1 c2,.slice A3 n c3,.int .i64 p.clk,.int .i64 p.ver] from hN)
     obtain ⟨nf_0,nf_1,nf_2,nf_3⟩:=free4 hN
     obtain ⟨r0,r1,r2,r3,lt_x⟩:=blok4 hR
     obtain ⟨f_0,f_1,f_2,f_3⟩:=free4 hR
     have HX:=Lib.hid hR
     clear hR
     go_wp2_with fail
     have hX:=HX.out
     clear n_0 n_1 n_2 n_3 nf_0 nf_1 nf_2 nf_3 lt_n_
     clear r0 r1 r2 r3 p0 p1 p2 p3
     clear y0 y1 y2 y3 y4 y5 y6 y7 y8 y9 y10 y11 y12 lt_y
     obtain ⟨hF,hWf,hgw⟩:=ret4 (show Blok _ _ _ #[_,_,_,_] from hX) hB (show w.heap.size ≤ (w.heap.size + 1 + 1) by first | exact Nat.le_refl _ | omega) (.slice A2 n1 c2) (.slice A3 n c3) (.int .i64 p.clk) (.int .i64 p.ver)
     have hlF:=hF.lt
     generalize (((w3.setCell ⟨(w.heap.size + 1 + 1),0,none⟩ (.slice A2 n1 c2)).setCell ⟨(w.heap.size + 1 + 1),1,none⟩ (.slice A3 n c3)).setCell ⟨(w.heap.size + 1 + 1),2,none⟩ (.int .i64 p.clk)).setCell ⟨(w.heap.size + 1 + 1),3,none⟩ (.int .i64 p.ver) = wf at *
     obtain ⟨r0,r1,r2,r3,_⟩:=blok4 hF
     refine bodyPost_ret (v:=.tuple #[.agg #[.slice A2 n1 c2,.slice A3 n c3,.int .i64 p.clk,.int .i64 p.ver],.int .i64 7]) (by simp [results,Tryz.results24,go_sem,r0,r1,r2,r3,hlF]) rfl ?_
     have hpe:=stepP_no HQ.out (by decide)
     exact ⟨A2,n1,c2,A3,n,c3,by rw [hpe,HQ.out],by rw [hpe]; exact ⟨HO.out.l1,HO.out.l,HO.out.b1,HO.out.b,own_down (own_far hown.o1 hgw (fun g hg => by injection hg with hg; omega)) (by omega),own_down (own_far hown.o hgw (fun g hg => by injection hg with hg; omega)) (by omega)⟩,hWf⟩
    ·have g3:decide (d.en ≤ p.clk) = false:=decide_eq_false hpp
     have HNP:=Lib.hid (show ¬ (d.op = 1 ∧ endD d ≤ p.clk) from fun e => hpp (by rw [← hE]; exact e.2))
     clear hpp hE
     obtain ⟨l,hl⟩:∃ x,Kc.addL p.cs (coD d) = x:=⟨_,rfl⟩
     obtain ⟨q,hq⟩:∃ x,Kc.mayC p.cs (coD d) = x:=⟨_,rfl⟩
     have HSL:=Lib.hid hl
     have HSQ:=Lib.hid hq
     have hQ:stepQ p d = q:=by
      unfold stepQ
      rw [if_neg (by rw [HRD.out]; simp),if_neg HNP.out,if_pos HK.out]
      unfold stepCq
      rw [if_pos HOP.out]
      exact hq
     have hL:stepCl p.cs d = l:=by
      unfold stepCl
      rw [if_pos HOP.out]
      exact Eq.trans (Eq.symm (addL_eq HRP.out.co)) hl
     obtain ⟨nv,hnv⟩:∃ x,min (p.ver + 1) 1099511627776 = x:=⟨_,rfl⟩
     have HNV:=Lib.hid hnv
     have HS:Hid (q = 0 → stepP p d = ⟨l,p.rs,p.clk,nv⟩):=fun e => by
      unfold stepP
      rw [if_pos (by rw [hQ]; exact e),if_pos HK.out,hL,hnv]
     have HQ:=Lib.hid hQ
     clear hl hq hQ hL hnv
     obtain ⟨p0,p1,p2,p3,lt_p⟩:=blok4 (show Blok _ _ _ #[.slice A1 n1 c1,.slice A n c,.int .i64 p.clk,.int .i64 p.ver] from hP)
     obtain ⟨y0,y1,y2,y3,y4,y5,y6,y7,y8,y9,y10,y11,y12,lt_y⟩:=blok13 hD
     go_wp2_with fail
     clear p0 p1 p2 p3 lt_p
     clear y0 y1 y2 y3 y4 y5 y6 y7 y8 y9 y10 y11 y12 lt_y
     refine (Kc.radd6_any A1 n1 c1 p.cs (coD d) w3 h.l1 (by have:=h.b1; omega) h.s1 q HSQ.out l HSL.out).mono ?_
     rintro e w4 ⟨v,rfl,ho,hb⟩
     obtain ⟨m,hm⟩:∃ x,l.length = x:=⟨_,rfl⟩
     rw [hm] at ho
     have HM:=Lib.hid hm
     clear hm
     obtain ⟨A4,c4,rfl⟩:=slice_of_own ho
     replace hown:=hown.below hb
     have hslo:=Sl.of_own ho
     replace h:=h.up hb
     replace hP:=hP.below hb hP.lt
     replace hD:=hD.below hb hD.lt
     replace hR:=hR.below hb hR.lt
     replace hN:=hN.below hb hN.lt
     replace hB:=hB.trans (hb.mono hs)
     replace hs:=hB.size
     clear hb
     by_cases hq0:q = 0
     ·have hst:=HS.out hq0
      have hrr:=HRR.out
      rw [hst] at hrr
      have hml:m ≤ 4096:=by rw [← HM.out]; exact rightC_len (Pl.right_spec.1 hrr).co
      have HST:=Lib.hid hst
      clear hst hrr
      subst hq0
      have g5:((0:Int) != 0) = false:=by simp
      have t0:IntKind.i64.wrap (p.ver + 1) = p.ver + 1:=by
       have h0:=HRP.out.v0
       have h1:=HRP.out.v1
       rw [IntWalk.i64_in _ (by omega)]
      have hPN:PlAt w4 A4 m c4 A n c ⟨l,p.rs,p.clk,nv⟩:=⟨HM.out,h.l,by omega,h.b,hslo,h.s⟩
      obtain ⟨p0,p1,p2,p3,lt_p⟩:=blok4 (show Blok _ _ _ #[.slice A1 n1 c1,.slice A n c,.int .i64 p.clk,.int .i64 p.ver] from hP)
      go_wp2_with fail
      clear p0 p1 p2 p3 lt_p t0
      rw [HNV.out]
      refine (rpcopy_any A4 m c4 A n c ⟨l,p.rs,p.clk,nv⟩ w4 hPN).mono ?_
      rintro e w5 ⟨A6,c6,A7,c7,rfl,ho6,hb⟩
      have hR4:=hR.lt
      replace ho6:=ho6.down (b':=w.heap.size + 3) (by omega)
      clear hPN hslo ho
      replace h:=h.up hb
      replace hP:=hP.below hb hP.lt
      replace hD:=hD.below hb hD.lt
      replace hR:=hR.below hb hR.lt
      replace hN:=hN.below hb hN.lt
      replace hB:=hB.trans (hb.mono hs)
      replace hs:=hB.size
      clear hb
      obtain ⟨r0,r1,r2,r3,lt_x⟩:=blok4 hR
      obtain ⟨f_0,f_1,f_2,f_3⟩:=free4 hR
      have HX:=Lib.hid hR
      clear hR
      go_wp2_with fail
      have hX:=HX.out
      clear r0 r1 r2 r3
      obtain ⟨hF,hWf,hgw⟩:=ret4 (show Blok _ _ _ #[_,_,_,_] from hX) hB (show w.heap.size ≤ (w.heap.size + 1 + 1) by first | exact Nat.le_refl _ | omega) (.slice A6 m c6) (.slice A7 n c7) (.int .i64 p.clk) (.int .i64 nv)
      have hlF:=hF.lt
      generalize (((w5.setCell ⟨(w.heap.size + 1 + 1),0,none⟩ (.slice A6 m c6)).setCell ⟨(w.heap.size + 1 + 1),1,none⟩ (.slice A7 n c7)).setCell ⟨(w.heap.size + 1 + 1),2,none⟩ (.int .i64 p.clk)).setCell ⟨(w.heap.size + 1 + 1),3,none⟩ (.int .i64 nv) = wf at *
      obtain ⟨r0,r1,r2,r3,_⟩:=blok4 hF
      refine bodyPost_ret (v:=.tuple #[.agg #[.slice A6 m c6,.slice A7 n c7,.int .i64 p.clk,.int .i64 nv],.int .i64 0]) (by simp [results,Tryz.results24,go_sem,r0,r1,r2,r3,hlF]) rfl ?_
      exact ⟨A6,m,c6,A7,n,c7,by rw [HST.out,HQ.out],by rw [HST.out]; exact ⟨ho6.l1,ho6.l,ho6.b1,ho6.b,own_down (own_far ho6.o1 hgw (fun g hg => by injection hg with hg; omega)) (by omega),own_down (own_far ho6.o hgw (fun g hg => by injection hg with hg; omega)) (by omega)⟩,hWf⟩
     ·have g5:(q != 0) = true:=by simp [hq0]
      clear hslo ho
      obtain ⟨n_0,n_1,n_2,n_3,lt_n_⟩:=blok4 (show Blok _ _ _ #[.slice A2 n1 c2,.slice A3 n c3,.int .i64 p.clk,.int .i64 p.ver] from hN)
      obtain ⟨nf_0,nf_1,nf_2,nf_3⟩:=free4 hN
      obtain ⟨r0,r1,r2,r3,lt_x⟩:=blok4 hR
      obtain ⟨f_0,f_1,f_2,f_3⟩:=free4 hR
      have HX:=Lib.hid hR
      clear hR
      go_wp2_with fail
      have hX:=HX.out
      clear n_0 n_1 n_2 n_3 nf_0 nf_1 nf_2 nf_3 lt_n_
      clear r0 r1 r2 r3
      obtain ⟨hF,hWf,hgw⟩:=ret4 (show Blok _ _ _ #[_,_,_,_] from hX) hB (show w.heap.size ≤ (w.heap.size + 1 + 1) by first | exact Nat.le_refl _ | omega) (.slice A2 n1 c2) (.slice A3 n c3) (.int .i64 p.clk) (.int .i64 p.ver)
      have hlF:=hF.lt
      generalize (((w4.setCell ⟨(w.heap.size + 1 + 1),0,none⟩ (.slice A2 n1 c2)).setCell ⟨(w.heap.size + 1 + 1),1,none⟩ (.slice A3 n c3)).setCell ⟨(w.heap.size + 1 + 1),2,none⟩ (.int .i64 p.clk)).setCell ⟨(w.heap.size + 1 + 1),3,none⟩ (.int .i64 p.ver) = wf at *
      obtain ⟨r0,r1,r2,r3,_⟩:=blok4 hF
      refine bodyPost_ret (v:=.tuple #[.agg #[.slice A2 n1 c2,.slice A3 n c3,.int .i64 p.clk,.int .i64 p.ver],.int .i64 q]) (by simp [results,Tryz.results24,go_sem,r0,r1,r2,r3,hlF]) rfl ?_
      have hpe:=stepP_no HQ.out hq0
      exact ⟨A2,n1,c2,A3,n,c3,by rw [hpe,HQ.out],by rw [hpe]; exact ⟨HO.out.l1,HO.out.l,HO.out.b1,HO.out.b,own_down (own_far hown.o1 hgw (fun g hg => by injection hg with hg; omega)) (by omega),own_down (own_far hown.o hgw (fun g hg => by injection hg with hg; omega)) (by omega)⟩,hWf⟩
   ·have g2:(d.kd == 1) = false:=by simp [hk]
    have HK:=Lib.hid hk
    clear hk
    have hE:endD d = d.re:=by unfold endD; rw [if_neg HK.out]
    by_cases hpp:d.re ≤ p.clk
    ·have g3:decide (d.re ≤ p.clk) = true:=decide_eq_true hpp
     have HQ:=Lib.hid (show stepQ p d = 7 by unfold stepQ; rw [if_neg (by rw [HRD.out]; simp),if_pos ⟨HOP.out,by rw [hE]; exact hpp⟩])
     clear hpp hE
     obtain ⟨p0,p1,p2,p3,lt_p⟩:=blok4 (show Blok _ _ _ #[.slice A1 n1 c1,.slice A n c,.int .i64 p.clk,.int .i64 p.ver] from hP)
     obtain ⟨y0,y1,y2,y3,y4,y5,y6,y7,y8,y9,y10,y11,y12,lt_y⟩:=blok13 hD
     obtain ⟨n_0,n_1,n_2,n_3,lt_n_⟩:=blok4 (show Blok _ _ _ #[.slice A2 n1 c2,.slice A3 n c3,.int .i64 p.clk,.int .i64 p.ver] from hN)
     obtain ⟨nf_0,nf_1,nf_2,nf_3⟩:=free4 hN
     obtain ⟨r0,r1,r2,r3,lt_x⟩:=blok4 hR
     obtain ⟨f_0,f_1,f_2,f_3⟩:=free4 hR
     have HX:=Lib.hid hR
     clear hR
     go_wp2_with fail
     have hX:=HX.out
     clear n_0 n_1 n_2 n_3 nf_0 nf_1 nf_2 nf_3 lt_n_
     clear r0 r1 r2 r3 p0 p1 p2 p3
     clear y0 y1 y2 y3 y4 y5 y6 y7 y8 y9 y10 y11 y12 lt_y
     obtain ⟨hF,hWf,hgw⟩:=ret4 (show Blok _ _ _ #[_,_,_,_] from hX) hB (show w.heap.size ≤ (w.heap.size + 1 + 1) by first | exact Nat.le_refl _ | omega) (.slice A2 n1 c2) (.slice A3 n c3) (.int .i64 p.clk) (.int .i64 p.ver)
     have hlF:=hF.lt
     generalize (((w3.setCell ⟨(w.heap.size + 1 + 1),0,none⟩ (.slice A2 n1 c2)).setCell ⟨(w.heap.size + 1 + 1),1,none⟩ (.slice A3 n c3)).setCell ⟨(w.heap.size + 1 + 1),2,none⟩ (.int .i64 p.clk)).setCell ⟨(w.heap.size + 1 + 1),3,none⟩ (.int .i64 p.ver) = wf at *
     obtain ⟨r0,r1,r2,r3,_⟩:=blok4 hF
     refine bodyPost_ret (v:=.tuple #[.agg #[.slice A2 n1 c2,.slice A3 n c3,.int .i64 p.clk,.int .i64 p.ver],.int .i64 7]) (by simp [results,Tryz.results24,go_sem,r0,r1,r2,r3,hlF]) rfl ?_
     have hpe:=stepP_no HQ.out (by decide)
     exact ⟨A2,n1,c2,A3,n,c3,by rw [hpe,HQ.out],by rw [hpe]; exact ⟨HO.out.l1,HO.out.l,HO.out.b1,HO.out.b,own_down (own_far hown.o1 hgw (fun g hg => by injection hg with hg; omega)) (by omega),own_down (own_far hown.o hgw (fun g hg => by injection hg with hg; omega)) (by omega)⟩,hWf⟩
    ·have g3:decide (d.re ≤ p.clk) = false:=decide_eq_false hpp
     have HNP:=Lib.hid (show ¬ (d.op = 1 ∧ endD d ≤ p.clk) from fun e => hpp (by rw [← hE]; exact e.2))
     clear hpp hE
     obtain ⟨l,hl⟩:∃ x,Kr.addRl p.rs (rgD d) = x:=⟨_,rfl⟩
     obtain ⟨q,hq⟩:∃ x,Kr.mayF p.rs (rgD d) = x:=⟨_,rfl⟩
     have HSL:=Lib.hid hl
     have HSQ:=Lib.hid hq
     have hQ:stepQ p d = q:=by
      unfold stepQ
      rw [if_neg (by rw [HRD.out]; simp),if_neg HNP.out,if_neg HK.out]
      unfold stepRq
      rw [if_pos HOP.out]
      exact hq
     have hL:stepRl p.rs d = l:=by
      unfold stepRl
      rw [if_pos HOP.out]
      exact Eq.trans (Eq.symm (addRl_eq HRP.out.rg)) hl
     obtain ⟨nv,hnv⟩:∃ x,min (p.ver + 1) 1099511627776 = x:=⟨_,rfl⟩
     have HNV:=Lib.hid hnv
     have HS:Hid (q = 0 → stepP p d = ⟨p.cs,l,p.clk,nv⟩):=fun e => by
      unfold stepP
      rw [if_pos (by rw [hQ]; exact e),if_neg HK.out,hL,hnv]
     have HQ:=Lib.hid hQ
     clear hl hq hQ hL hnv
     obtain ⟨p0,p1,p2,p3,lt_p⟩:=blok4 (show Blok _ _ _ #[.slice A1 n1 c1,.slice A n c,.int .i64 p.clk,.int .i64 p.ver] from hP)
     obtain ⟨y0,y1,y2,y3,y4,y5,y6,y7,y8,y9,y10,y11,y12,lt_y⟩:=blok13 hD
     go_wp2_with fail
     clear p0 p1 p2 p3 lt_p
     clear y0 y1 y2 y3 y4 y5 y6 y7 y8 y9 y10 y11 y12 lt_y
     refine (Kr.radd7_any A n c p.rs (rgD d) w3 h.l (by have:=h.b; omega) h.s q HSQ.out l HSL.out).mono ?_
     rintro e w4 ⟨v,rfl,ho,hb⟩
     obtain ⟨m,hm⟩:∃ x,l.length = x:=⟨_,rfl⟩
     rw [hm] at ho
     have HM:=Lib.hid hm
     clear hm
     obtain ⟨A4,c4,rfl⟩:=slice_of_own ho
     replace hown:=hown.below hb
     have hslo:=Sl.of_own ho
     replace h:=h.up hb
     replace hP:=hP.below hb hP.lt
     replace hD:=hD.below hb hD.lt
     replace hR:=hR.below hb hR.lt
     replace hN:=hN.below hb hN.lt
     replace hB:=hB.trans (hb.mono hs)
     replace hs:=hB.size
     clear hb
     by_cases hq0:q = 0
     ·have hst:=HS.out hq0
      have hrr:=HRR.out
      rw [hst] at hrr
      have hml:m ≤ 4096:=by rw [← HM.out]; exact (Kr.rightB_true.1 (Pl.right_spec.1 hrr).rg).1
      have HST:=Lib.hid hst
      clear hst hrr
      subst hq0
      have g5:((0:Int) != 0) = false:=by simp
      have t0:IntKind.i64.wrap (p.ver + 1) = p.ver + 1:=by
       have h0:=HRP.out.v0
       have h1:=HRP.out.v1
       rw [IntWalk.i64_in _ (by omega)]
      have hPN:PlAt w4 A1 n1 c1 A4 m c4 ⟨p.cs,l,p.clk,nv⟩:=⟨h.l1,HM.out,h.b1,by omega,h.s1,hslo⟩
      obtain ⟨p0,p1,p2,p3,lt_p⟩:=blok4 (show Blok _ _ _ #[.slice A1 n1 c1,.slice A n c,.int .i64 p.clk,.int .i64 p.ver] from hP)
      go_wp2_with fail
      clear p0 p1 p2 p3 lt_p t0
      rw [HNV.out]
      refine (rpcopy_any A1 n1 c1 A4 m c4 ⟨p.cs,l,p.clk,nv⟩ w4 hPN).mono ?_
      rintro e w5 ⟨A6,c6,A7,c7,rfl,ho6,hb⟩
      have hR4:=hR.lt
      replace ho6:=ho6.down (b':=w.heap.size + 3) (by omega)
      clear hPN hslo ho
      replace h:=h.up hb
      replace hP:=hP.below hb hP.lt
      replace hD:=hD.below hb hD.lt
      replace hR:=hR.below hb hR.lt
      replace hN:=hN.below hb hN.lt
      replace hB:=hB.trans (hb.mono hs)
      replace hs:=hB.size
      clear hb
      obtain ⟨r0,r1,r2,r3,lt_x⟩:=blok4 hR
      obtain ⟨f_0,f_1,f_2,f_3⟩:=free4 hR
      have HX:=Lib.hid hR
      clear hR
      go_wp2_with fail
      have hX:=HX.out
      clear r0 r1 r2 r3
      obtain ⟨hF,hWf,hgw⟩:=ret4 (show Blok _ _ _ #[_,_,_,_] from hX) hB (show w.heap.size ≤ (w.heap.size + 1 + 1) by first | exact Nat.le_refl _ | omega) (.slice A6 n1 c6) (.slice A7 m c7) (.int .i64 p.clk) (.int .i64 nv)
      have hlF:=hF.lt
      generalize (((w5.setCell ⟨(w.heap.size + 1 + 1),0,none⟩ (.slice A6 n1 c6)).setCell ⟨(w.heap.size + 1 + 1),1,none⟩ (.slice A7 m c7)).setCell ⟨(w.heap.size + 1 + 1),2,none⟩ (.int .i64 p.clk)).setCell ⟨(w.heap.size + 1 + 1),3,none⟩ (.int .i64 nv) = wf at *
      obtain ⟨r0,r1,r2,r3,_⟩:=blok4 hF
      refine bodyPost_ret (v:=.tuple #[.agg #[.slice A6 n1 c6,.slice A7 m c7,.int .i64 p.clk,.int .i64 nv],.int .i64 0]) (by simp [results,Tryz.results24,go_sem,r0,r1,r2,r3,hlF]) rfl ?_
      exact ⟨A6,n1,c6,A7,m,c7,by rw [HST.out,HQ.out],by rw [HST.out]; exact ⟨ho6.l1,ho6.l,ho6.b1,ho6.b,own_down (own_far ho6.o1 hgw (fun g hg => by injection hg with hg; omega)) (by omega),own_down (own_far ho6.o hgw (fun g hg => by injection hg with hg; omega)) (by omega)⟩,hWf⟩
     ·have g5:(q != 0) = true:=by simp [hq0]
      clear hslo ho
      obtain ⟨n_0,n_1,n_2,n_3,lt_n_⟩:=blok4 (show Blok _ _ _ #[.slice A2 n1 c2,.slice A3 n c3,.int .i64 p.clk,.int .i64 p.ver] from hN)
      obtain ⟨nf_0,nf_1,nf_2,nf_3⟩:=free4 hN
      obtain ⟨r0,r1,r2,r3,lt_x⟩:=blok4 hR
      obtain ⟨f_0,f_1,f_2,f_3⟩:=free4 hR
      have HX:=Lib.hid hR
      clear hR
      go_wp2_with fail
      have hX:=HX.out
      clear n_0 n_1 n_2 n_3 nf_0 nf_1 nf_2 nf_3 lt_n_
      clear r0 r1 r2 r3
      obtain ⟨hF,hWf,hgw⟩:=ret4 (show Blok _ _ _ #[_,_,_,_] from hX) hB (show w.heap.size ≤ (w.heap.size + 1 + 1) by first | exact Nat.le_refl _ | omega) (.slice A2 n1 c2) (.slice A3 n c3) (.int .i64 p.clk) (.int .i64 p.ver)
      have hlF:=hF.lt
      generalize (((w4.setCell ⟨(w.heap.size + 1 + 1),0,none⟩ (.slice A2 n1 c2)).setCell ⟨(w.heap.size + 1 + 1),1,none⟩ (.slice A3 n c3)).setCell ⟨(w.heap.size + 1 + 1),2,none⟩ (.int .i64 p.clk)).setCell ⟨(w.heap.size + 1 + 1),3,none⟩ (.int .i64 p.ver) = wf at *
      obtain ⟨r0,r1,r2,r3,_⟩:=blok4 hF
      refine bodyPost_ret (v:=.tuple #[.agg #[.slice A2 n1 c2,.slice A3 n c3,.int .i64 p.clk,.int .i64 p.ver],.int .i64 q]) (by simp [results,Tryz.results24,go_sem,r0,r1,r2,r3,hlF]) rfl ?_
      have hpe:=stepP_no HQ.out hq0
      exact ⟨A2,n1,c2,A3,n,c3,by rw [hpe,HQ.out],by rw [hpe]; exact ⟨HO.out.l1,HO.out.l,HO.out.b1,HO.out.b,own_down (own_far hown.o1 hgw (fun g hg => by injection hg with hg; omega)) (by omega),own_down (own_far hown.o hgw (fun g hg => by injection hg with hg; omega)) (by omega)⟩,hWf⟩
  ·have g1:(d.op == 1) = false:=by simp [hop]
   have HOP1:=Lib.hid hop
   clear hop
   by_cases hop:d.op = 2
   ·have g4:(d.op == 2) = true:=by simp [hop]
    have HOP:=Lib.hid hop
    clear hop
    by_cases hk:d.kd = 1
    ·have g2:(d.kd == 1) = true:=by simp [hk]
     have HK:=Lib.hid hk
     clear hk
     obtain ⟨l,hl⟩:∃ x,Kc.keepC p.cs d.id = x:=⟨_,rfl⟩
     obtain ⟨q,hq⟩:∃ x,Kc.delCode (Kc.keepC p.cs d.id).length n1 = x:=⟨_,rfl⟩
     have HSL:=Lib.hid hl
     have HSQ:=Lib.hid hq
     have hQ:stepQ p d = q:=by
      unfold stepQ
      rw [if_neg (by rw [HRD.out]; simp),if_neg (fun e => HOP1.out e.1),if_pos HK.out]
      unfold stepCq
      rw [if_neg HOP1.out,if_pos HOP.out]
      exact Eq.trans (Eq.symm (by unfold Kc.delCode delTq; rw [h.l1]; rfl)) hq
     have hL:stepCl p.cs d = l:=by
      unfold stepCl
      rw [if_neg HOP1.out,if_pos HOP.out]
      exact Eq.trans (Eq.symm (delL_eq _ _)) hl
     obtain ⟨nv,hnv⟩:∃ x,min (p.ver + 1) 1099511627776 = x:=⟨_,rfl⟩
     have HNV:=Lib.hid hnv
     have HS:Hid (q = 0 → stepP p d = ⟨l,p.rs,p.clk,nv⟩):=fun e => by
      unfold stepP
      rw [if_pos (by rw [hQ]; exact e),if_pos HK.out,hL,hnv]
     have HQ:=Lib.hid hQ
     clear hl hq hQ hL hnv
     obtain ⟨p0,p1,p2,p3,lt_p⟩:=blok4 (show Blok _ _ _ #[.slice A1 n1 c1,.slice A n c,.int .i64 p.clk,.int .i64 p.ver] from hP)
     obtain ⟨y0,y1,y2,y3,y4,y5,y6,y7,y8,y9,y10,y11,y12,lt_y⟩:=blok13 hD
     go_wp2_with fail
     clear p0 p1 p2 p3 lt_p
     clear y0 y1 y2 y3 y4 y5 y6 y7 y8 y9 y10 y11 y12 lt_y
     refine (Kc.rdel6_any A1 n1 c1 p.cs d.id w3 h.l1 (by have:=h.b1; omega) h.s1).mono ?_
     rintro e w4 ⟨v,rfl,ho,hb⟩
     rw [HSL.out] at ho
     rw [show Kc.delCode (Kc.keepC p.cs d.id).length n1 = q from HSQ.out]
     obtain ⟨m,hm⟩:∃ x,l.length = x:=⟨_,rfl⟩
     rw [hm] at ho
     have HM:=Lib.hid hm
     clear hm
     obtain ⟨A4,c4,rfl⟩:=slice_of_own ho
     replace hown:=hown.below hb
     have hslo:=Sl.of_own ho
     replace h:=h.up hb
     replace hP:=hP.below hb hP.lt
     replace hD:=hD.below hb hD.lt
     replace hR:=hR.below hb hR.lt
     replace hN:=hN.below hb hN.lt
     replace hB:=hB.trans (hb.mono hs)
     replace hs:=hB.size
     clear hb
     by_cases hq0:q = 0
     ·have hst:=HS.out hq0
      have hrr:=HRR.out
      rw [hst] at hrr
      have hml:m ≤ 4096:=by rw [← HM.out]; exact rightC_len (Pl.right_spec.1 hrr).co
      have HST:=Lib.hid hst
      clear hst hrr
      subst hq0
      have g5:((0:Int) != 0) = false:=by simp
      have t0:IntKind.i64.wrap (p.ver + 1) = p.ver + 1:=by
       have h0:=HRP.out.v0
       have h1:=HRP.out.v1
       rw [IntWalk.i64_in _ (by omega)]
      have hPN:PlAt w4 A4 m c4 A n c ⟨l,p.rs,p.clk,nv⟩:=⟨HM.out,h.l,by omega,h.b,hslo,h.s⟩
      obtain ⟨p0,p1,p2,p3,lt_p⟩:=blok4 (show Blok _ _ _ #[.slice A1 n1 c1,.slice A n c,.int .i64 p.clk,.int .i64 p.ver] from hP)
      go_wp2_with fail
      clear p0 p1 p2 p3 lt_p t0
      rw [HNV.out]
      refine (rpcopy_any A4 m c4 A n c ⟨l,p.rs,p.clk,nv⟩ w4 hPN).mono ?_
      rintro e w5 ⟨A6,c6,A7,c7,rfl,ho6,hb⟩
      have hR4:=hR.lt
      replace ho6:=ho6.down (b':=w.heap.size + 3) (by omega)
      clear hPN hslo ho
      replace h:=h.up hb
      replace hP:=hP.below hb hP.lt
      replace hD:=hD.below hb hD.lt
      replace hR:=hR.below hb hR.lt
      replace hN:=hN.below hb hN.lt
      replace hB:=hB.trans (hb.mono hs)
      replace hs:=hB.size
      clear hb
      obtain ⟨r0,r1,r2,r3,lt_x⟩:=blok4 hR
      obtain ⟨f_0,f_1,f_2,f_3⟩:=free4 hR
      have HX:=Lib.hid hR
      clear hR
      go_wp2_with fail
      have hX:=HX.out
      clear r0 r1 r2 r3
      obtain ⟨hF,hWf,hgw⟩:=ret4 (show Blok _ _ _ #[_,_,_,_] from hX) hB (show w.heap.size ≤ (w.heap.size + 1 + 1) by first | exact Nat.le_refl _ | omega) (.slice A6 m c6) (.slice A7 n c7) (.int .i64 p.clk) (.int .i64 nv)
      have hlF:=hF.lt
      generalize (((w5.setCell ⟨(w.heap.size + 1 + 1),0,none⟩ (.slice A6 m c6)).setCell ⟨(w.heap.size + 1 + 1),1,none⟩ (.slice A7 n c7)).setCell ⟨(w.heap.size + 1 + 1),2,none⟩ (.int .i64 p.clk)).setCell ⟨(w.heap.size + 1 + 1),3,none⟩ (.int .i64 nv) = wf at *
      obtain ⟨r0,r1,r2,r3,_⟩:=blok4 hF
      refine bodyPost_ret (v:=.tuple #[.agg #[.slice A6 m c6,.slice A7 n c7,.int .i64 p.clk,.int .i64 nv],.int .i64 0]) (by simp [results,Tryz.results24,go_sem,r0,r1,r2,r3,hlF]) rfl ?_
      exact ⟨A6,m,c6,A7,n,c7,by rw [HST.out,HQ.out],by rw [HST.out]; exact ⟨ho6.l1,ho6.l,ho6.b1,ho6.b,own_down (own_far ho6.o1 hgw (fun g hg => by injection hg with hg; omega)) (by omega),own_down (own_far ho6.o hgw (fun g hg => by injection hg with hg; omega)) (by omega)⟩,hWf⟩
     ·have g5:(q != 0) = true:=by simp [hq0]
      clear hslo ho
      obtain ⟨n_0,n_1,n_2,n_3,lt_n_⟩:=blok4 (show Blok _ _ _ #[.slice A2 n1 c2,.slice A3 n c3,.int .i64 p.clk,.int .i64 p.ver] from hN)
      obtain ⟨nf_0,nf_1,nf_2,nf_3⟩:=free4 hN
      obtain ⟨r0,r1,r2,r3,lt_x⟩:=blok4 hR
      obtain ⟨f_0,f_1,f_2,f_3⟩:=free4 hR
      have HX:=Lib.hid hR
      clear hR
      go_wp2_with fail
      have hX:=HX.out
      clear n_0 n_1 n_2 n_3 nf_0 nf_1 nf_2 nf_3 lt_n_
      clear r0 r1 r2 r3
      obtain ⟨hF,hWf,hgw⟩:=ret4 (show Blok _ _ _ #[_,_,_,_] from hX) hB (show w.heap.size ≤ (w.heap.size + 1 + 1) by first | exact Nat.le_refl _ | omega) (.slice A2 n1 c2) (.slice A3 n c3) (.int .i64 p.clk) (.int .i64 p.ver)
      have hlF:=hF.lt
      generalize (((w4.setCell ⟨(w.heap.size + 1 + 1),0,none⟩ (.slice A2 n1 c2)).setCell ⟨(w.heap.size + 1 + 1),1,none⟩ (.slice A3 n c3)).setCell ⟨(w.heap.size + 1 + 1),2,none⟩ (.int .i64 p.clk)).setCell ⟨(w.heap.size + 1 + 1),3,none⟩ (.int .i64 p.ver) = wf at *
      obtain ⟨r0,r1,r2,r3,_⟩:=blok4 hF
      refine bodyPost_ret (v:=.tuple #[.agg #[.slice A2 n1 c2,.slice A3 n c3,.int .i64 p.clk,.int .i64 p.ver],.int .i64 q]) (by simp [results,Tryz.results24,go_sem,r0,r1,r2,r3,hlF]) rfl ?_
      have hpe:=stepP_no HQ.out hq0
      exact ⟨A2,n1,c2,A3,n,c3,by rw [hpe,HQ.out],by rw [hpe]; exact ⟨HO.out.l1,HO.out.l,HO.out.b1,HO.out.b,own_down (own_far hown.o1 hgw (fun g hg => by injection hg with hg; omega)) (by omega),own_down (own_far hown.o hgw (fun g hg => by injection hg with hg; omega)) (by omega)⟩,hWf⟩
    ·have g2:(d.kd == 1) = false:=by simp [hk]
     have HK:=Lib.hid hk
     clear hk
     obtain ⟨l,hl⟩:∃ x,Kr.delRl p.rs (rgD d) = x:=⟨_,rfl⟩
     obtain ⟨q,hq⟩:∃ x,Kr.delRq p.rs (rgD d) = x:=⟨_,rfl⟩
     have HSL:=Lib.hid hl
     have HSQ:=Lib.hid hq
     have hQ:stepQ p d = q:=by
      unfold stepQ
      rw [if_neg (by rw [HRD.out]; simp),if_neg (fun e => HOP1.out e.1),if_neg HK.out]
      unfold stepRq
      rw [if_neg HOP1.out,if_pos HOP.out]
      exact Eq.trans (Eq.symm (delRq_eq HRP.out.rg)) hq
     have hL:stepRl p.rs d = l:=by
      unfold stepRl
      rw [if_neg HOP1.out,if_pos HOP.out]
      exact Eq.trans (Eq.symm (delRl_eq HRP.out.rg)) hl
     obtain ⟨nv,hnv⟩:∃ x,min (p.ver + 1) 1099511627776 = x:=⟨_,rfl⟩
     have HNV:=Lib.hid hnv
     have HS:Hid (q = 0 → stepP p d = ⟨p.cs,l,p.clk,nv⟩):=fun e => by
      unfold stepP
      rw [if_pos (by rw [hQ]; exact e),if_neg HK.out,hL,hnv]
     have HQ:=Lib.hid hQ
     clear hl hq hQ hL hnv
     obtain ⟨p0,p1,p2,p3,lt_p⟩:=blok4 (show Blok _ _ _ #[.slice A1 n1 c1,.slice A n c,.int .i64 p.clk,.int .i64 p.ver] from hP)
     obtain ⟨y0,y1,y2,y3,y4,y5,y6,y7,y8,y9,y10,y11,y12,lt_y⟩:=blok13 hD
     go_wp2_with fail
     clear p0 p1 p2 p3 lt_p
     clear y0 y1 y2 y3 y4 y5 y6 y7 y8 y9 y10 y11 y12 lt_y
     refine (Kr.rdel7_any A n c p.rs (rgD d) w3 h.l (by have:=h.b; omega) h.s l HSL.out q HSQ.out).mono ?_
     rintro e w4 ⟨v,rfl,ho,hb⟩
     obtain ⟨m,hm⟩:∃ x,l.length = x:=⟨_,rfl⟩
     rw [hm] at ho
     have HM:=Lib.hid hm
     clear hm
     obtain ⟨A4,c4,rfl⟩:=slice_of_own ho
     replace hown:=hown.below hb
     have hslo:=Sl.of_own ho
     replace h:=h.up hb
     replace hP:=hP.below hb hP.lt
     replace hD:=hD.below hb hD.lt
     replace hR:=hR.below hb hR.lt
     replace hN:=hN.below hb hN.lt
     replace hB:=hB.trans (hb.mono hs)
     replace hs:=hB.size
     clear hb
     by_cases hq0:q = 0
     ·have hst:=HS.out hq0
      have hrr:=HRR.out
      rw [hst] at hrr
      have hml:m ≤ 4096:=by rw [← HM.out]; exact (Kr.rightB_true.1 (Pl.right_spec.1 hrr).rg).1
      have HST:=Lib.hid hst
      clear hst hrr
      subst hq0
      have g5:((0:Int) != 0) = false:=by simp
      have t0:IntKind.i64.wrap (p.ver + 1) = p.ver + 1:=by
       have h0:=HRP.out.v0
       have h1:=HRP.out.v1
       rw [IntWalk.i64_in _ (by omega)]
      have hPN:PlAt w4 A1 n1 c1 A4 m c4 ⟨p.cs,l,p.clk,nv⟩:=⟨h.l1,HM.out,h.b1,by omega,h.s1,hslo⟩
      obtain ⟨p0,p1,p2,p3,lt_p⟩:=blok4 (show Blok _ _ _ #[.slice A1 n1 c1,.slice A n c,.int .i64 p.clk,.int .i64 p.ver] from hP)
      go_wp2_with fail
      clear p0 p1 p2 p3 lt_p t0
      rw [HNV.out]
      refine (rpcopy_any A1 n1 c1 A4 m c4 ⟨p.cs,l,p.clk,nv⟩ w4 hPN).mono ?_
      rintro e w5 ⟨A6,c6,A7,c7,rfl,ho6,hb⟩
      have hR4:=hR.lt
      replace ho6:=ho6.down (b':=w.heap.size + 3) (by omega)
      clear hPN hslo ho
      replace h:=h.up hb
      replace hP:=hP.below hb hP.lt
      replace hD:=hD.below hb hD.lt
      replace hR:=hR.below hb hR.lt
      replace hN:=hN.below hb hN.lt
      replace hB:=hB.trans (hb.mono hs)
      replace hs:=hB.size
      clear hb
      obtain ⟨r0,r1,r2,r3,lt_x⟩:=blok4 hR
      obtain ⟨f_0,f_1,f_2,f_3⟩:=free4 hR
      have HX:=Lib.hid hR
      clear hR
      go_wp2_with fail
      have hX:=HX.out
      clear r0 r1 r2 r3
      obtain ⟨hF,hWf,hgw⟩:=ret4 (show Blok _ _ _ #[_,_,_,_] from hX) hB (show w.heap.size ≤ (w.heap.size + 1 + 1) by first | exact Nat.le_refl _ | omega) (.slice A6 n1 c6) (.slice A7 m c7) (.int .i64 p.clk) (.int .i64 nv)
      have hlF:=hF.lt
      generalize (((w5.setCell ⟨(w.heap.size + 1 + 1),0,none⟩ (.slice A6 n1 c6)).setCell ⟨(w.heap.size + 1 + 1),1,none⟩ (.slice A7 m c7)).setCell ⟨(w.heap.size + 1 + 1),2,none⟩ (.int .i64 p.clk)).setCell ⟨(w.heap.size + 1 + 1),3,none⟩ (.int .i64 nv) = wf at *
      obtain ⟨r0,r1,r2,r3,_⟩:=blok4 hF
      refine bodyPost_ret (v:=.tuple #[.agg #[.slice A6 n1 c6,.slice A7 m c7,.int .i64 p.clk,.int .i64 nv],.int .i64 0]) (by simp [results,Tryz.results24,go_sem,r0,r1,r2,r3,hlF]) rfl ?_
      exact ⟨A6,n1,c6,A7,m,c7,by rw [HST.out,HQ.out],by rw [HST.out]; exact ⟨ho6.l1,ho6.l,ho6.b1,ho6.b,own_down (own_far ho6.o1 hgw (fun g hg => by injection hg with hg; omega)) (by omega),own_down (own_far ho6.o hgw (fun g hg => by injection hg with hg; omega)) (by omega)⟩,hWf⟩
     ·have g5:(q != 0) = true:=by simp [hq0]
      clear hslo ho
      obtain ⟨n_0,n_1,n_2,n_3,lt_n_⟩:=blok4 (show Blok _ _ _ #[.slice A2 n1 c2,.slice A3 n c3,.int .i64 p.clk,.int .i64 p.ver] from hN)
      obtain ⟨nf_0,nf_1,nf_2,nf_3⟩:=free4 hN
      obtain ⟨r0,r1,r2,r3,lt_x⟩:=blok4 hR
      obtain ⟨f_0,f_1,f_2,f_3⟩:=free4 hR
      have HX:=Lib.hid hR
      clear hR
      go_wp2_with fail
      have hX:=HX.out
      clear n_0 n_1 n_2 n_3 nf_0 nf_1 nf_2 nf_3 lt_n_
      clear r0 r1 r2 r3
      obtain ⟨hF,hWf,hgw⟩:=ret4 (show Blok _ _ _ #[_,_,_,_] from hX) hB (show w.heap.size ≤ (w.heap.size + 1 + 1) by first | exact Nat.le_refl _ | omega) (.slice A2 n1 c2) (.slice A3 n c3) (.int .i64 p.clk) (.int .i64 p.ver)
      have hlF:=hF.lt
      generalize (((w4.setCell ⟨(w.heap.size + 1 + 1),0,none⟩ (.slice A2 n1 c2)).setCell ⟨(w.heap.size + 1 + 1),1,none⟩ (.slice A3 n c3)).setCell ⟨(w.heap.size + 1 + 1),2,none⟩ (.int .i64 p.clk)).setCell ⟨(w.heap.size + 1 + 1),3,none⟩ (.int .i64 p.ver) = wf at *
      obtain ⟨r0,r1,r2,r3,_⟩:=blok4 hF
      refine bodyPost_ret (v:=.tuple #[.agg #[.slice A2 n1 c2,.slice A3 n c3,.int .i64 p.clk,.int .i64 p.ver],.int .i64 q]) (by simp [results,Tryz.results24,go_sem,r0,r1,r2,r3,hlF]) rfl ?_
      have hpe:=stepP_no HQ.out hq0
      exact ⟨A2,n1,c2,A3,n,c3,by rw [hpe,HQ.out],by rw [hpe]; exact ⟨HO.out.l1,HO.out.l,HO.out.b1,HO.out.b,own_down (own_far hown.o1 hgw (fun g hg => by injection hg with hg; omega)) (by omega),own_down (own_far hown.o hgw (fun g hg => by injection hg with hg; omega)) (by omega)⟩,hWf⟩
   ·have g4:(d.op == 2) = false:=by simp [hop]
    have HOP2:=Lib.hid hop
    clear hop
    by_cases hk:d.kd = 1
    ·have g2:(d.kd == 1) = true:=by simp [hk]
     have HK:=Lib.hid hk
     clear hk
     obtain ⟨l,hl⟩:∃ x,Kc.chgL p.cs d.id d.rt = x:=⟨_,rfl⟩
     obtain ⟨q,hq⟩:∃ x,Kc.chgQ p.cs d.id d.rt = x:=⟨_,rfl⟩
     have HSL:=Lib.hid hl
     have HSQ:=Lib.hid hq
     have hQ:stepQ p d = q:=by
      unfold stepQ
      rw [if_neg (by rw [HRD.out]; simp),if_neg (fun e => HOP1.out e.1),if_pos HK.out]
      unfold stepCq
      rw [if_neg HOP1.out,if_neg HOP2.out]
      exact Eq.trans (Eq.symm (chgQ_eq _ _ _)) hq
     have hL:stepCl p.cs d = l:=by
      unfold stepCl
      rw [if_neg HOP1.out,if_neg HOP2.out]
      exact Eq.trans (Eq.symm (chgL_eq _ _ _)) hl
     obtain ⟨nv,hnv⟩:∃ x,min (p.ver + 1) 1099511627776 = x:=⟨_,rfl⟩
     have HNV:=Lib.hid hnv
     have HS:Hid (q = 0 → stepP p d = ⟨l,p.rs,p.clk,nv⟩):=fun e => by
      unfold stepP
      rw [if_pos (by rw [hQ]; exact e),if_pos HK.out,hL,hnv]
     have HQ:=Lib.hid hQ
     clear hl hq hQ hL hnv
     obtain ⟨p0,p1,p2,p3,lt_p⟩:=blok4 (show Blok _ _ _ #[.slice A1 n1 c1,.slice A n c,.int .i64 p.clk,.int .i64 p.ver] from hP)
     obtain ⟨y0,y1,y2,y3,y4,y5,y6,y7,y8,y9,y10,y11,y12,lt_y⟩:=blok13 hD
     go_wp2_with fail
     clear p0 p1 p2 p3 lt_p
     clear y0 y1 y2 y3 y4 y5 y6 y7 y8 y9 y10 y11 y12 lt_y
     refine (Kc.rchange6_any A1 n1 c1 p.cs d.id d.rt w3 h.l1 (by have:=h.b1; omega) h.s1 l HSL.out q HSQ.out).mono ?_
     rintro e w4 ⟨v,rfl,ho,hb⟩
     obtain ⟨m,hm⟩:∃ x,n1 = x:=⟨_,rfl⟩
     have hml:l.length = m:=by
      rw [← hm,← HSL.out]
      unfold Kc.chgL; split <;> simp [h.l1]
     rw [show n1 = l.length by rw [hml,hm]] at ho
     clear hm hml m
     obtain ⟨m,hm⟩:∃ x,l.length = x:=⟨_,rfl⟩
     rw [hm] at ho
     have HM:=Lib.hid hm
     clear hm
     obtain ⟨A4,c4,rfl⟩:=slice_of_own ho
     replace hown:=hown.below hb
     have hslo:=Sl.of_own ho
     replace h:=h.up hb
     replace hP:=hP.below hb hP.lt
     replace hD:=hD.below hb hD.lt
     replace hR:=hR.below hb hR.lt
     replace hN:=hN.below hb hN.lt
     replace hB:=hB.trans (hb.mono hs)
     replace hs:=hB.size
     clear hb
     by_cases hq0:q = 0
     ·have hst:=HS.out hq0
      have hrr:=HRR.out
      rw [hst] at hrr
      have hml:m ≤ 4096:=by rw [← HM.out]; exact rightC_len (Pl.right_spec.1 hrr).co
      have HST:=Lib.hid hst
      clear hst hrr
      subst hq0
      have g5:((0:Int) != 0) = false:=by simp
      have t0:IntKind.i64.wrap (p.ver + 1) = p.ver + 1:=by
       have h0:=HRP.out.v0
       have h1:=HRP.out.v1
       rw [IntWalk.i64_in _ (by omega)]
      have hPN:PlAt w4 A4 m c4 A n c ⟨l,p.rs,p.clk,nv⟩:=⟨HM.out,h.l,by omega,h.b,hslo,h.s⟩
      obtain ⟨p0,p1,p2,p3,lt_p⟩:=blok4 (show Blok _ _ _ #[.slice A1 n1 c1,.slice A n c,.int .i64 p.clk,.int .i64 p.ver] from hP)
      go_wp2_with fail
      clear p0 p1 p2 p3 lt_p t0
      rw [HNV.out]
      refine (rpcopy_any A4 m c4 A n c ⟨l,p.rs,p.clk,nv⟩ w4 hPN).mono ?_
      rintro e w5 ⟨A6,c6,A7,c7,rfl,ho6,hb⟩
      have hR4:=hR.lt
      replace ho6:=ho6.down (b':=w.heap.size + 3) (by omega)
      clear hPN hslo ho
      replace h:=h.up hb
      replace hP:=hP.below hb hP.lt
      replace hD:=hD.below hb hD.lt
      replace hR:=hR.below hb hR.lt
      replace hN:=hN.below hb hN.lt
      replace hB:=hB.trans (hb.mono hs)
      replace hs:=hB.size
      clear hb
      obtain ⟨r0,r1,r2,r3,lt_x⟩:=blok4 hR
      obtain ⟨f_0,f_1,f_2,f_3⟩:=free4 hR
      have HX:=Lib.hid hR
      clear hR
      go_wp2_with fail
      have hX:=HX.out
      clear r0 r1 r2 r3
      obtain ⟨hF,hWf,hgw⟩:=ret4 (show Blok _ _ _ #[_,_,_,_] from hX) hB (show w.heap.size ≤ (w.heap.size + 1 + 1) by first | exact Nat.le_refl _ | omega) (.slice A6 m c6) (.slice A7 n c7) (.int .i64 p.clk) (.int .i64 nv)
      have hlF:=hF.lt
      generalize (((w5.setCell ⟨(w.heap.size + 1 + 1),0,none⟩ (.slice A6 m c6)).setCell ⟨(w.heap.size + 1 + 1),1,none⟩ (.slice A7 n c7)).setCell ⟨(w.heap.size + 1 + 1),2,none⟩ (.int .i64 p.clk)).setCell ⟨(w.heap.size + 1 + 1),3,none⟩ (.int .i64 nv) = wf at *
      obtain ⟨r0,r1,r2,r3,_⟩:=blok4 hF
      refine bodyPost_ret (v:=.tuple #[.agg #[.slice A6 m c6,.slice A7 n c7,.int .i64 p.clk,.int .i64 nv],.int .i64 0]) (by simp [results,Tryz.results24,go_sem,r0,r1,r2,r3,hlF]) rfl ?_
      exact ⟨A6,m,c6,A7,n,c7,by rw [HST.out,HQ.out],by rw [HST.out]; exact ⟨ho6.l1,ho6.l,ho6.b1,ho6.b,own_down (own_far ho6.o1 hgw (fun g hg => by injection hg with hg; omega)) (by omega),own_down (own_far ho6.o hgw (fun g hg => by injection hg with hg; omega)) (by omega)⟩,hWf⟩
     ·have g5:(q != 0) = true:=by simp [hq0]
      clear hslo ho
      obtain ⟨n_0,n_1,n_2,n_3,lt_n_⟩:=blok4 (show Blok _ _ _ #[.slice A2 n1 c2,.slice A3 n c3,.int .i64 p.clk,.int .i64 p.ver] from hN)
      obtain ⟨nf_0,nf_1,nf_2,nf_3⟩:=free4 hN
      obtain ⟨r0,r1,r2,r3,lt_x⟩:=blok4 hR
      obtain ⟨f_0,f_1,f_2,f_3⟩:=free4 hR
      have HX:=Lib.hid hR
      clear hR
      go_wp2_with fail
      have hX:=HX.out
      clear n_0 n_1 n_2 n_3 nf_0 nf_1 nf_2 nf_3 lt_n_
      clear r0 r1 r2 r3
      obtain ⟨hF,hWf,hgw⟩:=ret4 (show Blok _ _ _ #[_,_,_,_] from hX) hB (show w.heap.size ≤ (w.heap.size + 1 + 1) by first | exact Nat.le_refl _ | omega) (.slice A2 n1 c2) (.slice A3 n c3) (.int .i64 p.clk) (.int .i64 p.ver)
      have hlF:=hF.lt
      generalize (((w4.setCell ⟨(w.heap.size + 1 + 1),0,none⟩ (.slice A2 n1 c2)).setCell ⟨(w.heap.size + 1 + 1),1,none⟩ (.slice A3 n c3)).setCell ⟨(w.heap.size + 1 + 1),2,none⟩ (.int .i64 p.clk)).setCell ⟨(w.heap.size + 1 + 1),3,none⟩ (.int .i64 p.ver) = wf at *
      obtain ⟨r0,r1,r2,r3,_⟩:=blok4 hF
      refine bodyPost_ret (v:=.tuple #[.agg #[.slice A2 n1 c2,.slice A3 n c3,.int .i64 p.clk,.int .i64 p.ver],.int .i64 q]) (by simp [results,Tryz.results24,go_sem,r0,r1,r2,r3,hlF]) rfl ?_
      have hpe:=stepP_no HQ.out hq0
      exact ⟨A2,n1,c2,A3,n,c3,by rw [hpe,HQ.out],by rw [hpe]; exact ⟨HO.out.l1,HO.out.l,HO.out.b1,HO.out.b,own_down (own_far hown.o1 hgw (fun g hg => by injection hg with hg; omega)) (by omega),own_down (own_far hown.o hgw (fun g hg => by injection hg with hg; omega)) (by omega)⟩,hWf⟩
    ·have g2:(d.kd == 1) = false:=by simp [hk]
     have HK:=Lib.hid hk
     clear hk
     obtain ⟨l,hl⟩:∃ x,Kr.chgRl p.rs (rgD d) = x:=⟨_,rfl⟩
     obtain ⟨q,hq⟩:∃ x,Kr.chgRq p.rs (rgD d) = x:=⟨_,rfl⟩
     have HSL:=Lib.hid hl
     have HSQ:=Lib.hid hq
     have hQ:stepQ p d = q:=by
      unfold stepQ
      rw [if_neg (by rw [HRD.out]; simp),if_neg (fun e => HOP1.out e.1),if_neg HK.out]
      unfold stepRq
      rw [if_neg HOP1.out,if_neg HOP2.out]
      exact Eq.trans (Eq.symm (chgRq_eq _ _)) hq
     have hL:stepRl p.rs d = l:=by
      unfold stepRl
      rw [if_neg HOP1.out,if_neg HOP2.out]
      exact Eq.trans (Eq.symm (chgRl_eq _ _)) hl
     obtain ⟨nv,hnv⟩:∃ x,min (p.ver + 1) 1099511627776 = x:=⟨_,rfl⟩
     have HNV:=Lib.hid hnv
     have HS:Hid (q = 0 → stepP p d = ⟨p.cs,l,p.clk,nv⟩):=fun e => by
      unfold stepP
      rw [if_pos (by rw [hQ]; exact e),if_neg HK.out,hL,hnv]
     have HQ:=Lib.hid hQ
     clear hl hq hQ hL hnv
     obtain ⟨p0,p1,p2,p3,lt_p⟩:=blok4 (show Blok _ _ _ #[.slice A1 n1 c1,.slice A n c,.int .i64 p.clk,.int .i64 p.ver] from hP)
     obtain ⟨y0,y1,y2,y3,y4,y5,y6,y7,y8,y9,y10,y11,y12,lt_y⟩:=blok13 hD
     go_wp2_with fail
     clear p0 p1 p2 p3 lt_p
     clear y0 y1 y2 y3 y4 y5 y6 y7 y8 y9 y10 y11 y12 lt_y
     refine (Kr.rchange7_any A n c p.rs (rgD d) w3 h.l (by have:=h.b; omega) h.s l HSL.out q HSQ.out).mono ?_
     rintro e w4 ⟨v,rfl,ho,hb⟩
     obtain ⟨m,hm⟩:∃ x,n = x:=⟨_,rfl⟩
     have hml:l.length = m:=by
      rw [← hm,← HSL.out]
      unfold Kr.chgRl; split
      ·split <;> simp [h.l]
      ·exact h.l
     rw [show n = l.length by rw [hml,hm]] at ho
     clear hm hml m
     obtain ⟨m,hm⟩:∃ x,l.length = x:=⟨_,rfl⟩
     rw [hm] at ho
     have HM:=Lib.hid hm
     clear hm
     obtain ⟨A4,c4,rfl⟩:=slice_of_own ho
     replace hown:=hown.below hb
     have hslo:=Sl.of_own ho
     replace h:=h.up hb
     replace hP:=hP.below hb hP.lt
     replace hD:=hD.below hb hD.lt
     replace hR:=hR.below hb hR.lt
     replace hN:=hN.below hb hN.lt
     replace hB:=hB.trans (hb.mono hs)
     replace hs:=hB.size
     clear hb
     by_cases hq0:q = 0
     ·have hst:=HS.out hq0
      have hrr:=HRR.out
      rw [hst] at hrr
      have hml:m ≤ 4096:=by rw [← HM.out]; exact (Kr.rightB_true.1 (Pl.right_spec.1 hrr).rg).1
      have HST:=Lib.hid hst
      clear hst hrr
      subst hq0
      have g5:((0:Int) != 0) = false:=by simp
      have t0:IntKind.i64.wrap (p.ver + 1) = p.ver + 1:=by
       have h0:=HRP.out.v0
       have h1:=HRP.out.v1
       rw [IntWalk.i64_in _ (by omega)]
      have hPN:PlAt w4 A1 n1 c1 A4 m c4 ⟨p.cs,l,p.clk,nv⟩:=⟨h.l1,HM.out,h.b1,by omega,h.s1,hslo⟩
      obtain ⟨p0,p1,p2,p3,lt_p⟩:=blok4 (show Blok _ _ _ #[.slice A1 n1 c1,.slice A n c,.int .i64 p.clk,.int .i64 p.ver] from hP)
      go_wp2_with fail
      clear p0 p1 p2 p3 lt_p t0
      rw [HNV.out]
      refine (rpcopy_any A1 n1 c1 A4 m c4 ⟨p.cs,l,p.clk,nv⟩ w4 hPN).mono ?_
      rintro e w5 ⟨A6,c6,A7,c7,rfl,ho6,hb⟩
      have hR4:=hR.lt
      replace ho6:=ho6.down (b':=w.heap.size + 3) (by omega)
      clear hPN hslo ho
      replace h:=h.up hb
      replace hP:=hP.below hb hP.lt
      replace hD:=hD.below hb hD.lt
      replace hR:=hR.below hb hR.lt
      replace hN:=hN.below hb hN.lt
      replace hB:=hB.trans (hb.mono hs)
      replace hs:=hB.size
      clear hb
      obtain ⟨r0,r1,r2,r3,lt_x⟩:=blok4 hR
      obtain ⟨f_0,f_1,f_2,f_3⟩:=free4 hR
      have HX:=Lib.hid hR
      clear hR
      go_wp2_with fail
      have hX:=HX.out
      clear r0 r1 r2 r3
      obtain ⟨hF,hWf,hgw⟩:=ret4 (show Blok _ _ _ #[_,_,_,_] from hX) hB (show w.heap.size ≤ (w.heap.size + 1 + 1) by first | exact Nat.le_refl _ | omega) (.slice A6 n1 c6) (.slice A7 m c7) (.int .i64 p.clk) (.int .i64 nv)
      have hlF:=hF.lt
      generalize (((w5.setCell ⟨(w.heap.size + 1 + 1),0,none⟩ (.slice A6 n1 c6)).setCell ⟨(w.heap.size + 1 + 1),1,none⟩ (.slice A7 m c7)).setCell ⟨(w.heap.size + 1 + 1),2,none⟩ (.int .i64 p.clk)).setCell ⟨(w.heap.size + 1 + 1),3,none⟩ (.int .i64 nv) = wf at *
      obtain ⟨r0,r1,r2,r3,_⟩:=blok4 hF
      refine bodyPost_ret (v:=.tuple #[.agg #[.slice A6 n1 c6,.slice A7 m c7,.int .i64 p.clk,.int .i64 nv],.int .i64 0]) (by simp [results,Tryz.results24,go_sem,r0,r1,r2,r3,hlF]) rfl ?_
      exact ⟨A6,n1,c6,A7,m,c7,by rw [HST.out,HQ.out],by rw [HST.out]; exact ⟨ho6.l1,ho6.l,ho6.b1,ho6.b,own_down (own_far ho6.o1 hgw (fun g hg => by injection hg with hg; omega)) (by omega),own_down (own_far ho6.o hgw (fun g hg => by injection hg with hg; omega)) (by omega)⟩,hWf⟩
     ·have g5:(q != 0) = true:=by simp [hq0]
      clear hslo ho
      obtain ⟨n_0,n_1,n_2,n_3,lt_n_⟩:=blok4 (show Blok _ _ _ #[.slice A2 n1 c2,.slice A3 n c3,.int .i64 p.clk,.int .i64 p.ver] from hN)
      obtain ⟨nf_0,nf_1,nf_2,nf_3⟩:=free4 hN
      obtain ⟨r0,r1,r2,r3,lt_x⟩:=blok4 hR
      obtain ⟨f_0,f_1,f_2,f_3⟩:=free4 hR
      have HX:=Lib.hid hR
      clear hR
      go_wp2_with fail
      have hX:=HX.out
      clear n_0 n_1 n_2 n_3 nf_0 nf_1 nf_2 nf_3 lt_n_
      clear r0 r1 r2 r3
      obtain ⟨hF,hWf,hgw⟩:=ret4 (show Blok _ _ _ #[_,_,_,_] from hX) hB (show w.heap.size ≤ (w.heap.size + 1 + 1) by first | exact Nat.le_refl _ | omega) (.slice A2 n1 c2) (.slice A3 n c3) (.int .i64 p.clk) (.int .i64 p.ver)
      have hlF:=hF.lt
      generalize (((w4.setCell ⟨(w.heap.size + 1 + 1),0,none⟩ (.slice A2 n1 c2)).setCell ⟨(w.heap.size + 1 + 1),1,none⟩ (.slice A3 n c3)).setCell ⟨(w.heap.size + 1 + 1),2,none⟩ (.int .i64 p.clk)).setCell ⟨(w.heap.size + 1 + 1),3,none⟩ (.int .i64 p.ver) = wf at *
      obtain ⟨r0,r1,r2,r3,_⟩:=blok4 hF
      refine bodyPost_ret (v:=.tuple #[.agg #[.slice A2 n1 c2,.slice A3 n c3,.int .i64 p.clk,.int .i64 p.ver],.int .i64 q]) (by simp [results,Tryz.results24,go_sem,r0,r1,r2,r3,hlF]) rfl ?_
      have hpe:=stepP_no HQ.out hq0
      exact ⟨A2,n1,c2,A3,n,c3,by rw [hpe,HQ.out],by rw [hpe]; exact ⟨HO.out.l1,HO.out.l,HO.out.b1,HO.out.b,own_down (own_far hown.o1 hgw (fun g hg => by injection hg with hg; omega)) (by omega),own_down (own_far hown.o hgw (fun g hg => by injection hg with hg; omega)) (by omega)⟩,hWf⟩
end Go.Proofs.YtolaabllhibkdaaGreat
