/- Contract of view.Edge: a contact as a bundle of a class sees it. It makes new memory alone. -/
import Derived.Test.YtodcoockhkghdaaGreatGQ33
import Derived.Test.YtodcoockhkghdaaGreatGQ11
import Derived.Test.YtodcoockhkghdaaGreatGQ21
import Derived.Test.YtodcoockhkghdaaGreatGQ4
import Derived.Test.YtodcoockhkghdaaGreatGQ9
import Derived.Test.YtodcoockhkghdaaGreatGQ20
import Derived.Deep.CutBlock
import Derived.Deep.DeepCutAuto
namespace Go.Proofs.YtodcoockhkghdaaGreat.Kv
open Go.ChangeShapes Go.WideShapes Go.ChangeAt Go.RowKit Go.Sort
set_option linter.unusedSimpArgs false
set_option linter.unusedVariables false
def owltF (d:List Rg) (cf ct cs ce:Int):Option Int:=(d.find? (Kr.covR cf ct cs ce)).map Rg.ow
theorem owltF_of {d:List Rg} (h:Kr.SortR d) {cf ct cs ce o:Int} {b:Bool} (hc:cs < ce) (ht:Kr.Tells d cf ct cs ce o b):owltF d cf ct cs ce = if b = true then some o else none:=by
 unfold owltF
 rcases ht with ⟨rfl,x,hx,hcx,rfl⟩ | ⟨rfl,rfl,hn⟩
 ·cases hf:d.find? (Kr.covR cf ct cs ce) with
  | none =>
   rw [List.find?_eq_none] at hf
   exact absurd hcx (hf x hx)
  | some y =>
   have hy:=List.mem_of_find?_eq_some hf
   have hcy:=List.find?_some hf
   obtain ⟨i,hi,e1⟩:=List.getElem_of_mem hx
   obtain ⟨j,hj,e2⟩:=List.getElem_of_mem hy
   have h1:gRg d i = x:=by rw [gRg_eq hi,e1]
   have h2:gRg d j = y:=by rw [gRg_eq hj,e2]
   have:=Kr.cov_one h hc hi hj (by rw [h1]; exact hcx) (by rw [h2]; exact hcy)
   subst this
   rw [← h1,← h2]; simp
 ·rw [List.find?_eq_none.2 (fun x hx => by rw [hn x hx]; decide)]; simp
def ctOf (c:Co):Kb.Ct:=⟨c.id,c.fr,c.tn,c.st,c.en,c.rt⟩
/-- The edge of c, if it may be and has a range. -/
def edgeF (rs:List Rg) (bk:List Bk) (c:Co) (cl:Int):Option Ed:=
 if Kc.okC c = true then (owltF rs c.fr c.tn c.st c.en).map fun o => ⟨c.id,c.fr,c.tn,min (c.st + cdiv (Kb.backF (Kb.rowB bk c.id) cl) c.rt) 1099511627776,c.en,c.rt,o,Kb.roomF (ctOf c) (Kb.rowB bk c.id) cl⟩ else none
def zeroEd:Ed:=⟨0,0,0,0,0,0,0,0⟩
theorem owlt_is (A:Option Addr) (n c:Nat) (d:List Rg) (x:Co) (w:World) (hd:d.length = n) (hn:n ≤ 1000000) (h:Sl w w.heap.size 5 A n c (flatRg d)) (hr:Kr.rightB d = true) (hx:x.st < x.en) (o:Option Int) (ho:owltF d x.fr x.tn x.st x.en = o) :
  Calls Tryz.prog 87 #[.slice A n c,.agg #[.int .i64 x.id,.int .i64 x.fr,.int .i64 x.tn,.int .i64 x.st,.int .i64 x.en,.int .i64 x.rt]] w fun e w' => ∃ v,e = .returned (.tuple #[.int .i64 v,.bool o.isSome]) ∧ (∀ u,o = some u → v = u) ∧ Below w.heap.size w w':=by
 refine (Kr.owlt_any A n c d x.id x.fr x.tn x.st x.en x.rt w hd hn h).mono ?_
 rintro e w' ⟨i,v,b,rfl,ha,hw,hb⟩
 have ht:=Kr.tells_of (Kr.sort_of_right hr) hd hx ha hw
 have:=owltF_of (Kr.sort_of_right hr) hx ht
 rw [ho] at this
 subst this
 refine ⟨v,?_,?_,hb⟩
 ·cases b <;> rfl
 ·intro u hu
  cases b
  ·simp at hu
  ·simpa using hu
set_option maxHeartbeats 8000000 in
set_option maxRecDepth 100000 in
theorem edge_any (A1:Option Addr) (n1 c1:Nat) (A:Option Addr) (n c:Nat) (rs:List Rg) (clk ver:Int) (A2:Option Addr) (n2 c2:Nat) (bk:List Bk) (x:Co) (cl:Int) (w:World) (hd:rs.length = n) (hn:n ≤ 1000000) (hd2:bk.length = n2) (hn2:n2 ≤ 1000000) (h:Sl w w.heap.size 5 A n c (flatRg rs)) (h2:Sl w w.heap.size 4 A2 n2 c2 (flatBk bk)) (hr:Kr.rightB rs = true) (hr2:Kb.rightB bk = true) (o:Option Ed) (ho:edgeF rs bk x cl = o) (y:Ed) (hy:o.getD zeroEd = y) :
  Calls Tryz.prog 51 #[.agg #[.slice A1 n1 c1,.slice A n c,.int .i64 clk,.int .i64 ver],.slice A2 n2 c2,.agg #[.int .i64 x.id,.int .i64 x.fr,.int .i64 x.tn,.int .i64 x.st,.int .i64 x.en,.int .i64 x.rt],.int .i64 cl] w fun e w' => e = .returned (.tuple #[.agg #[.int .i64 y.id,.int .i64 y.fr,.int .i64 y.tn,.int .i64 y.op,.int .i64 y.en,.int .i64 y.ra,.int .i64 y.ow,.int .i64 y.ro],.bool o.isSome]) ∧ Below w.heap.size w w':=by
 have hB:Below w.heap.size w (((w.alloc (.cells #[.slice A1 n1 c1,.slice A n c,.int .i64 clk,.int .i64 ver] 25)).alloc (.cells #[.int .i64 x.id,.int .i64 x.fr,.int .i64 x.tn,.int .i64 x.st,.int .i64 x.en,.int .i64 x.rt] 59)).alloc (.cells #[.int .i64 0,.int .i64 0,.int .i64 0,.int .i64 0,.int .i64 0,.int .i64 0,.int .i64 0,.int .i64 0] 86)):=by (repeat (first | exact Below.refl _ _ | refine Below.alloc ?_ (by first | omega | (simp; done) | (simp; omega)) _ | refine Below.setCell ?_ (by first | omega | (simp; done) | (simp; omega)) _ | refine Below.drew ?_))
 have hP:=((Blok.new w 25 #[.slice A1 n1 c1,.slice A n c,.int .i64 clk,.int .i64 ver]).alloc (.cells #[.int .i64 x.id,.int .i64 x.fr,.int .i64 x.tn,.int .i64 x.st,.int .i64 x.en,.int .i64 x.rt] 59)).alloc (.cells #[.int .i64 0,.int .i64 0,.int .i64 0,.int .i64 0,.int .i64 0,.int .i64 0,.int .i64 0,.int .i64 0] 86)
 have hC:=(Blok.new (w.alloc (.cells #[.slice A1 n1 c1,.slice A n c,.int .i64 clk,.int .i64 ver] 25)) 59 #[.int .i64 x.id,.int .i64 x.fr,.int .i64 x.tn,.int .i64 x.st,.int .i64 x.en,.int .i64 x.rt]).alloc (.cells #[.int .i64 0,.int .i64 0,.int .i64 0,.int .i64 0,.int .i64 0,.int .i64 0,.int .i64 0,.int .i64 0] 86)
 have hZ:=Blok.new ((w.alloc (.cells #[.slice A1 n1 c1,.slice A n c,.int .i64 clk,.int .i64 ver] 25)).alloc (.cells #[.int .i64 x.id,.int .i64 x.fr,.int .i64 x.tn,.int .i64 x.st,.int .i64 x.en,.int .i64 x.rt] 59)) 86 #[.int .i64 0,.int .i64 0,.int .i64 0,.int .i64 0,.int .i64 0,.int .i64 0,.int .i64 0,.int .i64 0]
 simp only [World.size_alloc] at hC hZ
 replace h:=h.up hB
 replace h2:=h2.up hB
 have hs:=hB.size
 obtain ⟨ok,hok⟩:∃ b,Kc.okC x = b:=⟨_,rfl⟩
 have HD:=Lib.hid hd
 have HD2:=Lib.hid hd2
 have HR:=Lib.hid hr
 have HR2:=Lib.hid hr2
 have HO:=Lib.hid ho
 have HY:=Lib.hid hy
 have HOK:=Lib.hid hok
 clear hd hd2 hr hr2 ho hy hok
 go_enter Tryz.func51,Tryz.ntmps51
 go_wp2_with fail
 generalize ((w.alloc (.cells #[.slice A1 n1 c1,.slice A n c,.int .i64 clk,.int .i64 ver] 25)).alloc (.cells #[.int .i64 x.id,.int .i64 x.fr,.int .i64 x.tn,.int .i64 x.st,.int .i64 x.en,.int .i64 x.rt] 59)).alloc (.cells #[.int .i64 0,.int .i64 0,.int .i64 0,.int .i64 0,.int .i64 0,.int .i64 0,.int .i64 0,.int .i64 0] 86) = w0 at *
 refine (Kc.okC_call x w0 ok HOK.out).mono ?_
 rintro e w1 ⟨rfl,hb⟩
 replace h:=h.up hb
 replace h2:=h2.up hb
 replace hP:=hP.below hb hP.lt
 replace hC:=hC.below hb hC.lt
 replace hZ:=hZ.below hb hZ.lt
 replace hB:=hB.trans (hb.mono hs)
 replace hs:=hB.size
 clear hb
 cases ok
 ·have hov:o = none:=by rw [← HO.out]; unfold edgeF; rw [if_neg (by rw [HOK.out]; decide)]
  have hyv:y = zeroEd:=by rw [← HY.out,hov]; rfl
  subst hyv
  have HOV:=Lib.hid hov
  have r0:w1.cell? ⟨w.heap.size + 1 + 1,0,none⟩ = some (.int .i64 0):=hZ.cell 0
  have f_0:=hZ.free 0
  have r1:w1.cell? ⟨w.heap.size + 1 + 1,1,none⟩ = some (.int .i64 0):=hZ.cell 1
  have f_1:=hZ.free 1
  have r2:w1.cell? ⟨w.heap.size + 1 + 1,2,none⟩ = some (.int .i64 0):=hZ.cell 2
  have f_2:=hZ.free 2
  have r3:w1.cell? ⟨w.heap.size + 1 + 1,3,none⟩ = some (.int .i64 0):=hZ.cell 3
  have f_3:=hZ.free 3
  have r4:w1.cell? ⟨w.heap.size + 1 + 1,4,none⟩ = some (.int .i64 0):=hZ.cell 4
  have f_4:=hZ.free 4
  have r5:w1.cell? ⟨w.heap.size + 1 + 1,5,none⟩ = some (.int .i64 0):=hZ.cell 5
  have f_5:=hZ.free 5
  have r6:w1.cell? ⟨w.heap.size + 1 + 1,6,none⟩ = some (.int .i64 0):=hZ.cell 6
  have f_6:=hZ.free 6
  have r7:w1.cell? ⟨w.heap.size + 1 + 1,7,none⟩ = some (.int .i64 0):=hZ.cell 7
  have f_7:=hZ.free 7
  have lt_z:=hZ.lt
  have HZ:=Lib.hid hZ
  clear hov hZ hP hC h h2
  go_wp2
  have hX:=HZ.out
  clear r0 r1 r2 r3 r4 r5 r6 r7
  have hF:Blok ((((((((w1.setCell ⟨(w.heap.size + 1 + 1),0,none⟩ (.int .i64 0)).setCell ⟨(w.heap.size + 1 + 1),1,none⟩ (.int .i64 0)).setCell ⟨(w.heap.size + 1 + 1),2,none⟩ (.int .i64 0)).setCell ⟨(w.heap.size + 1 + 1),3,none⟩ (.int .i64 0)).setCell ⟨(w.heap.size + 1 + 1),4,none⟩ (.int .i64 0)).setCell ⟨(w.heap.size + 1 + 1),5,none⟩ (.int .i64 0)).setCell ⟨(w.heap.size + 1 + 1),6,none⟩ (.int .i64 0)).setCell ⟨(w.heap.size + 1 + 1),7,none⟩ (.int .i64 0)) (w.heap.size + 1 + 1) 86 #[.int .i64 0,.int .i64 0,.int .i64 0,.int .i64 0,.int .i64 0,.int .i64 0,.int .i64 0,.int .i64 0]:=by have h:=((((((((hX.set_ 0 (.int .i64 0)).set_ 1 (.int .i64 0)).set_ 2 (.int .i64 0)).set_ 3 (.int .i64 0)).set_ 4 (.int .i64 0)).set_ 5 (.int .i64 0)).set_ 6 (.int .i64 0)).set_ 7 (.int .i64 0)); simpa using h
  have hle0:w.heap.size ≤ (w.heap.size + 1 + 1):=by first | exact Nat.le_refl _ | omega
  have hWf:Below w.heap.size w ((((((((w1.setCell ⟨(w.heap.size + 1 + 1),0,none⟩ (.int .i64 0)).setCell ⟨(w.heap.size + 1 + 1),1,none⟩ (.int .i64 0)).setCell ⟨(w.heap.size + 1 + 1),2,none⟩ (.int .i64 0)).setCell ⟨(w.heap.size + 1 + 1),3,none⟩ (.int .i64 0)).setCell ⟨(w.heap.size + 1 + 1),4,none⟩ (.int .i64 0)).setCell ⟨(w.heap.size + 1 + 1),5,none⟩ (.int .i64 0)).setCell ⟨(w.heap.size + 1 + 1),6,none⟩ (.int .i64 0)).setCell ⟨(w.heap.size + 1 + 1),7,none⟩ (.int .i64 0)):=((((((((hB.setCell (p:=⟨(w.heap.size + 1 + 1),0,none⟩) hle0 (.int .i64 0)).setCell (p:=⟨(w.heap.size + 1 + 1),1,none⟩) hle0 (.int .i64 0)).setCell (p:=⟨(w.heap.size + 1 + 1),2,none⟩) hle0 (.int .i64 0)).setCell (p:=⟨(w.heap.size + 1 + 1),3,none⟩) hle0 (.int .i64 0)).setCell (p:=⟨(w.heap.size + 1 + 1),4,none⟩) hle0 (.int .i64 0)).setCell (p:=⟨(w.heap.size + 1 + 1),5,none⟩) hle0 (.int .i64 0)).setCell (p:=⟨(w.heap.size + 1 + 1),6,none⟩) hle0 (.int .i64 0)).setCell (p:=⟨(w.heap.size + 1 + 1),7,none⟩) hle0 (.int .i64 0))
  have hlF:=hF.lt
  generalize ((((((((w1.setCell ⟨(w.heap.size + 1 + 1),0,none⟩ (.int .i64 0)).setCell ⟨(w.heap.size + 1 + 1),1,none⟩ (.int .i64 0)).setCell ⟨(w.heap.size + 1 + 1),2,none⟩ (.int .i64 0)).setCell ⟨(w.heap.size + 1 + 1),3,none⟩ (.int .i64 0)).setCell ⟨(w.heap.size + 1 + 1),4,none⟩ (.int .i64 0)).setCell ⟨(w.heap.size + 1 + 1),5,none⟩ (.int .i64 0)).setCell ⟨(w.heap.size + 1 + 1),6,none⟩ (.int .i64 0)).setCell ⟨(w.heap.size + 1 + 1),7,none⟩ (.int .i64 0)) = wf at *
  have r0:wf.cell? ⟨(w.heap.size + 1 + 1),0,none⟩ = some (.int .i64 0):=hF.cell 0
  have r1:wf.cell? ⟨(w.heap.size + 1 + 1),1,none⟩ = some (.int .i64 0):=hF.cell 1
  have r2:wf.cell? ⟨(w.heap.size + 1 + 1),2,none⟩ = some (.int .i64 0):=hF.cell 2
  have r3:wf.cell? ⟨(w.heap.size + 1 + 1),3,none⟩ = some (.int .i64 0):=hF.cell 3
  have r4:wf.cell? ⟨(w.heap.size + 1 + 1),4,none⟩ = some (.int .i64 0):=hF.cell 4
  have r5:wf.cell? ⟨(w.heap.size + 1 + 1),5,none⟩ = some (.int .i64 0):=hF.cell 5
  have r6:wf.cell? ⟨(w.heap.size + 1 + 1),6,none⟩ = some (.int .i64 0):=hF.cell 6
  have r7:wf.cell? ⟨(w.heap.size + 1 + 1),7,none⟩ = some (.int .i64 0):=hF.cell 7
  refine bodyPost_ret (v:=.tuple #[.agg #[.int .i64 0,.int .i64 0,.int .i64 0,.int .i64 0,.int .i64 0,.int .i64 0,.int .i64 0,.int .i64 0],.bool false]) (by simp [results,Tryz.results51,go_sem,r0,r1,r2,r3,r4,r5,r6,r7,hlF]) rfl ?_
  rw [HOV.out]
  exact ⟨rfl,hWf⟩
 ·have hsp:=Kc.okC_span HOK.out
  obtain ⟨ov,hov⟩:∃ q,owltF rs x.fr x.tn x.st x.en = q:=⟨_,rfl⟩
  have HOV:=Lib.hid hov
  have HOW:=Lib.hid (owlt_is A n c rs x w1 HD.out hn h HR.out hsp ov hov)
  have p0:w1.cell? ⟨w.heap.size,0,none⟩ = some (.slice A1 n1 c1):=hP.cell 0
  have p1:w1.cell? ⟨w.heap.size,1,none⟩ = some (.slice A n c):=hP.cell 1
  have lt_p:=hP.lt
  have k0:w1.cell? ⟨w.heap.size + 1,0,none⟩ = some (.int .i64 x.id):=hC.cell 0
  have k1:w1.cell? ⟨w.heap.size + 1,1,none⟩ = some (.int .i64 x.fr):=hC.cell 1
  have k2:w1.cell? ⟨w.heap.size + 1,2,none⟩ = some (.int .i64 x.tn):=hC.cell 2
  have k3:w1.cell? ⟨w.heap.size + 1,3,none⟩ = some (.int .i64 x.st):=hC.cell 3
  have k4:w1.cell? ⟨w.heap.size + 1,4,none⟩ = some (.int .i64 x.en):=hC.cell 4
  have k5:w1.cell? ⟨w.heap.size + 1,5,none⟩ = some (.int .i64 x.rt):=hC.cell 5
  have lt_c:=hC.lt
  clear hov
  go_wp2_with fail
  refine HOW.out.mono ?_
  rintro e w2 ⟨v,rfl,hv,hb⟩
  replace h2:=h2.up hb
  replace hC:=hC.below hb hC.lt
  replace hZ:=hZ.below hb hZ.lt
  replace hB:=hB.trans (hb.mono hs)
  replace hs:=hB.size
  clear hb p0 p1 lt_p k0 k1 k2 k3 k4 k5 lt_c h hP HOW
  cases ov with
  | none =>
   have hov:o = none:=by rw [← HO.out]; unfold edgeF; rw [if_pos HOK.out,HOV.out]; rfl
   have hyv:y = zeroEd:=by rw [← HY.out,hov]; rfl
   subst hyv
   have HOV2:=Lib.hid hov
   have r0:w2.cell? ⟨w.heap.size + 1 + 1,0,none⟩ = some (.int .i64 0):=hZ.cell 0
   have f_0:=hZ.free 0
   have r1:w2.cell? ⟨w.heap.size + 1 + 1,1,none⟩ = some (.int .i64 0):=hZ.cell 1
   have f_1:=hZ.free 1
   have r2:w2.cell? ⟨w.heap.size + 1 + 1,2,none⟩ = some (.int .i64 0):=hZ.cell 2
   have f_2:=hZ.free 2
   have r3:w2.cell? ⟨w.heap.size + 1 + 1,3,none⟩ = some (.int .i64 0):=hZ.cell 3
   have f_3:=hZ.free 3
   have r4:w2.cell? ⟨w.heap.size + 1 + 1,4,none⟩ = some (.int .i64 0):=hZ.cell 4
   have f_4:=hZ.free 4
   have r5:w2.cell? ⟨w.heap.size + 1 + 1,5,none⟩ = some (.int .i64 0):=hZ.cell 5
   have f_5:=hZ.free 5
   have r6:w2.cell? ⟨w.heap.size + 1 + 1,6,none⟩ = some (.int .i64 0):=hZ.cell 6
   have f_6:=hZ.free 6
   have r7:w2.cell? ⟨w.heap.size + 1 + 1,7,none⟩ = some (.int .i64 0):=hZ.cell 7
   have f_7:=hZ.free 7
   have lt_z:=hZ.lt
   have HZ:=Lib.hid hZ
   clear hov hZ hC h2 hv
   go_wp2
   have hX:=HZ.out
   clear r0 r1 r2 r3 r4 r5 r6 r7
   have hF:Blok ((((((((w2.setCell ⟨(w.heap.size + 1 + 1),0,none⟩ (.int .i64 0)).setCell ⟨(w.heap.size + 1 + 1),1,none⟩ (.int .i64 0)).setCell ⟨(w.heap.size + 1 + 1),2,none⟩ (.int .i64 0)).setCell ⟨(w.heap.size + 1 + 1),3,none⟩ (.int .i64 0)).setCell ⟨(w.heap.size + 1 + 1),4,none⟩ (.int .i64 0)).setCell ⟨(w.heap.size + 1 + 1),5,none⟩ (.int .i64 0)).setCell ⟨(w.heap.size + 1 + 1),6,none⟩ (.int .i64 0)).setCell ⟨(w.heap.size + 1 + 1),7,none⟩ (.int .i64 0)) (w.heap.size + 1 + 1) 86 #[.int .i64 0,.int .i64 0,.int .i64 0,.int .i64 0,.int .i64 0,.int .i64 0,.int .i64 0,.int .i64 0]:=by have h:=((((((((hX.set_ 0 (.int .i64 0)).set_ 1 (.int .i64 0)).set_ 2 (.int .i64 0)).set_ 3 (.int .i64 0)).set_ 4 (.int .i64 0)).set_ 5 (.int .i64 0)).set_ 6 (.int .i64 0)).set_ 7 (.int .i64 0)); simpa using h
   have hle0:w.heap.size ≤ (w.heap.size + 1 + 1):=by first | exact Nat.le_refl _ | omega
   have hWf:Below w.heap.size w ((((((((w2.setCell ⟨(w.heap.size + 1 + 1),0,none⟩ (.int .i64 0)).setCell ⟨(w.heap.size + 1 + 1),1,none⟩ (.int .i64 0)).setCell ⟨(w.heap.size + 1 + 1),2,none⟩ (.int .i64 0)).setCell ⟨(w.heap.size + 1 + 1),3,none⟩ (.int .i64 0)).setCell ⟨(w.heap.size + 1 + 1),4,none⟩ (.int .i64 0)).setCell ⟨(w.heap.size + 1 + 1),5,none⟩ (.int .i64 0)).setCell ⟨(w.heap.size + 1 + 1),6,none⟩ (.int .i64 0)).setCell ⟨(w.heap.size + 1 + 1),7,none⟩ (.int .i64 0)):=((((((((hB.setCell (p:=⟨(w.heap.size + 1 + 1),0,none⟩) hle0 (.int .i64 0)).setCell (p:=⟨(w.heap.size + 1 + 1),1,none⟩) hle0 (.int .i64 0)).setCell (p:=⟨(w.heap.size + 1 + 1),2,none⟩) hle0 (.int .i64 0)).setCell (p:=⟨(w.heap.size + 1 + 1),3,none⟩) hle0 (.int .i64 0)).setCell (p:=⟨(w.heap.size + 1 + 1),4,none⟩) hle0 (.int .i64 0)).setCell (p:=⟨(w.heap.size + 1 + 1),5,none⟩) hle0 (.int .i64 0)).setCell (p:=⟨(w.heap.size + 1 + 1),6,none⟩) hle0 (.int .i64 0)).setCell (p:=⟨(w.heap.size + 1 + 1),7,none⟩) hle0 (.int .i64 0))
   have hlF:=hF.lt
   generalize ((((((((w2.setCell ⟨(w.heap.size + 1 + 1),0,none⟩ (.int .i64 0)).setCell ⟨(w.heap.size + 1 + 1),1,none⟩ (.int .i64 0)).setCell ⟨(w.heap.size + 1 + 1),2,none⟩ (.int .i64 0)).setCell ⟨(w.heap.size + 1 + 1),3,none⟩ (.int .i64 0)).setCell ⟨(w.heap.size + 1 + 1),4,none⟩ (.int .i64 0)).setCell ⟨(w.heap.size + 1 + 1),5,none⟩ (.int .i64 0)).setCell ⟨(w.heap.size + 1 + 1),6,none⟩ (.int .i64 0)).setCell ⟨(w.heap.size + 1 + 1),7,none⟩ (.int .i64 0)) = wf at *
   have r0:wf.cell? ⟨(w.heap.size + 1 + 1),0,none⟩ = some (.int .i64 0):=hF.cell 0
   have r1:wf.cell? ⟨(w.heap.size + 1 + 1),1,none⟩ = some (.int .i64 0):=hF.cell 1
   have r2:wf.cell? ⟨(w.heap.size + 1 + 1),2,none⟩ = some (.int .i64 0):=hF.cell 2
   have r3:wf.cell? ⟨(w.heap.size + 1 + 1),3,none⟩ = some (.int .i64 0):=hF.cell 3
   have r4:wf.cell? ⟨(w.heap.size + 1 + 1),4,none⟩ = some (.int .i64 0):=hF.cell 4
   have r5:wf.cell? ⟨(w.heap.size + 1 + 1),5,none⟩ = some (.int .i64 0):=hF.cell 5
   have r6:wf.cell? ⟨(w.heap.size + 1 + 1),6,none⟩ = some (.int .i64 0):=hF.cell 6
   have r7:wf.cell? ⟨(w.heap.size + 1 + 1),7,none⟩ = some (.int .i64 0):=hF.cell 7
   refine bodyPost_ret (v:=.tuple #[.agg #[.int .i64 0,.int .i64 0,.int .i64 0,.int .i64 0,.int .i64 0,.int .i64 0,.int .i64 0,.int .i64 0],.bool false]) (by simp [results,Tryz.results51,go_sem,r0,r1,r2,r3,r4,r5,r6,r7,hlF]) rfl ?_
   rw [HOV2.out]
   exact ⟨rfl,hWf⟩
  | some u =>
   obtain rfl:=hv u rfl
   have hcb:contactB x.id x.fr x.tn x.st x.en x.rt = true:=HOK.out
   obtain ⟨⟨i1,i2⟩,_,_,_,j1,j2,j3,k1',k2'⟩:=contactB_spec.1 hcb
   have hbk:=Kb.backF_ok (Kb.right_ok HR2.out x.id) cl
   obtain ⟨bl,hbl⟩:∃ q,Kb.backF (Kb.rowB bk x.id) cl = q:=⟨_,rfl⟩
   rw [hbl] at hbk
   have hcd:=cdiv_bounds hbk.1 k1'
   obtain ⟨dq,hdq⟩:∃ q,cdiv bl x.rt = q:=⟨_,rfl⟩
   rw [hdq] at hcd
   obtain ⟨rm,hrm⟩:∃ q,Kb.roomF (ctOf x) (Kb.rowB bk x.id) cl = q:=⟨_,rfl⟩
   have hov:o = some ⟨x.id,x.fr,x.tn,min (x.st + dq) 1099511627776,x.en,x.rt,v,rm⟩:=by
    rw [← HO.out]; unfold edgeF; rw [if_pos HOK.out,HOV.out,hbl,hdq,hrm]; rfl
   have hyv:y = ⟨x.id,x.fr,x.tn,min (x.st + dq) 1099511627776,x.en,x.rt,v,rm⟩:=by rw [← HY.out,hov]; rfl
   have HOV2:=Lib.hid hov
   have HYV:=Lib.hid hyv
   have HBL:=Lib.hid hbl
   have HDQ:=Lib.hid hdq
   have HRM:=Lib.hid hrm
   have hq1:0 ≤ dq:=hcd.1
   have hq2:dq ≤ 4611686018427387904:=by
    have h1:=hcd.2.1
    have h2:=hbk.2
    omega
   have HCE:=Lib.hid (fun (w':World) => ceil_yes (a:=bl) (b:=x.rt) hbk.1 (by omega) k1' w')
   have HQ2:Hid (∀ dd os,Sl (grow (redrawn w2 dd) os) (grow (redrawn w2 dd) os).heap.size 4 A2 n2 c2 (flatBk bk)):=fun dd os => h2.up (below_regrown w2 dd os)
   have k0:w2.cell? ⟨w.heap.size + 1,0,none⟩ = some (.int .i64 x.id):=hC.cell 0
   have k1:w2.cell? ⟨w.heap.size + 1,1,none⟩ = some (.int .i64 x.fr):=hC.cell 1
   have k2:w2.cell? ⟨w.heap.size + 1,2,none⟩ = some (.int .i64 x.tn):=hC.cell 2
   have k3:w2.cell? ⟨w.heap.size + 1,3,none⟩ = some (.int .i64 x.st):=hC.cell 3
   have k4:w2.cell? ⟨w.heap.size + 1,4,none⟩ = some (.int .i64 x.en):=hC.cell 4
   have k5:w2.cell? ⟨w.heap.size + 1,5,none⟩ = some (.int .i64 x.rt):=hC.cell 5
   have lt_c:=hC.lt
   clear hov hyv hbl hdq hrm hcb hbk hcd HO HY HOV
   go_wp2_with fail
   have q_k0:=fun d os => cell_regrown k0 d os
   have q_k1:=fun d os => cell_regrown k1 d os
   have q_k2:=fun d os => cell_regrown k2 d os
   have q_k3:=fun d os => cell_regrown k3 d os
   have q_k4:=fun d os => cell_regrown k4 d os
   have q_k5:=fun d os => cell_regrown k5 d os
   try simp only [List.append]
   first | refine wp_region_text_below ?_ | refine wp_region_quiet_below (by kernel_rfl) (by kernel_rfl) ?_
   repeat (go_big_quiet_step ((first | (go_at_call 89; with_reducible exact Calls.regrown_of (Kb.backlog_any A2 n2 c2 bk x.id cl _ HD2.out hn2 (HQ2.out _ _) (Kb.right_sort HR2.out) _ rfl (Kb.right_ok HR2.out x.id) bl HBL.out)) | (go_at_call 88; with_reducible exact HDQ.out ▸ Calls.regrown_same (HCE.out _)))))
   refine wpQuiet_nil ?_
   intro _ hqw
   obtain ⟨pq,hqw⟩:=hqw
   subst hqw
   clear q_k0 q_k1 q_k2 q_k3 q_k4 q_k5
   have hb:=below_regrown w2 pq.d pq.os
   replace h2:=h2.up hb
   replace hC:=hC.below hb hC.lt
   replace hZ:=hZ.below hb hZ.lt
   replace hB:=hB.trans (hb.mono hs)
   replace hs:=hB.size
   clear hb k0 k1 k2 k3 k4 k5 lt_c HBL HDQ HQ2 HCE
   generalize grow (redrawn w2 pq.d) pq.os = w3 at *
   have HQ3:Hid (∀ dd os,Sl (grow (redrawn w3 dd) os) (grow (redrawn w3 dd) os).heap.size 4 A2 n2 c2 (flatBk bk)):=fun dd os => h2.up (below_regrown w3 dd os)
   have k0:w3.cell? ⟨w.heap.size + 1,0,none⟩ = some (.int .i64 x.id):=hC.cell 0
   have k1:w3.cell? ⟨w.heap.size + 1,1,none⟩ = some (.int .i64 x.fr):=hC.cell 1
   have k2:w3.cell? ⟨w.heap.size + 1,2,none⟩ = some (.int .i64 x.tn):=hC.cell 2
   have k3:w3.cell? ⟨w.heap.size + 1,3,none⟩ = some (.int .i64 x.st):=hC.cell 3
   have k4:w3.cell? ⟨w.heap.size + 1,4,none⟩ = some (.int .i64 x.en):=hC.cell 4
   have k5:w3.cell? ⟨w.heap.size + 1,5,none⟩ = some (.int .i64 x.rt):=hC.cell 5
   have lt_c:=hC.lt
   have HRC:=Lib.hid (show ∀ w':World,Sl w' w'.heap.size 4 A2 n2 c2 (flatBk bk) → Calls Tryz.prog 60 #[.slice A2 n2 c2,.agg #[.int .i64 x.id,.int .i64 x.fr,.int .i64 x.tn,.int .i64 x.st,.int .i64 x.en,.int .i64 x.rt],.int .i64 cl] w' fun e w'' => e = .returned (.int .i64 rm) ∧ Below w'.heap.size w' w'' from fun w' hl' => Kb.room_any A2 n2 c2 bk (ctOf x) cl w' HD2.out hn2 hl' (Kb.right_sort HR2.out) _ rfl (Kb.right_ok HR2.out x.id) rm HRM.out)
   have g0:IntKind.i64.wrap (x.st + dq) = x.st + dq:=by rw [IntWalk.i64_in _ (by omega)]
   go_wp2_with fail
   obtain ⟨om,hom⟩:∃ q,min (x.st + dq) 1099511627776 = q:=⟨_,rfl⟩
   have hm:(x.st + dq ≤ 1099511627776 ∧ om = x.st + dq) ∨ (1099511627776 < x.st + dq ∧ om = 1099511627776):=by omega
   have HYV2:=Lib.hid (hom ▸ HYV.out)
   have HOV3:=Lib.hid (hom ▸ HOV2.out)
   clear hom HYV HOV2
   rcases hm with ⟨hm,rfl⟩ | ⟨hm,rfl⟩
   all_goals (try have hmn:min (x.st + dq) 1099511627776 = x.st + dq:=by omega)
   all_goals (try have hmx:min (x.st + dq) 1099511627776 = 1099511627776:=by omega)
   all_goals
    have q_k0:=fun d os => cell_regrown k0 d os
    have q_k1:=fun d os => cell_regrown k1 d os
    have q_k2:=fun d os => cell_regrown k2 d os
    have q_k3:=fun d os => cell_regrown k3 d os
    have q_k4:=fun d os => cell_regrown k4 d os
    have q_k5:=fun d os => cell_regrown k5 d os
    try simp only [List.append]
    refine wp_region_grown_tail 21 (by kernel_rfl) (by kernel_rfl) ?_
    simp only [Nat.reduceAdd,List.take_succ_cons,List.take_zero]
    repeat (go_big_quiet_step ((go_at_call 60; with_reducible exact Calls.regrown_of (HRC.out _ (HQ3.out _ _)))))
    refine wpQuiet_nil ?_
    intro _ hqw
    obtain ⟨pq,hqw⟩:=hqw
    subst hqw
    clear q_k0 q_k1 q_k2 q_k3 q_k4 q_k5
    have hb:=below_regrown w3 pq.d pq.os
    have hZ4:=hZ.below hb hZ.lt
    have hB4:=hB.trans (hb.mono hs)
    have hs4:=hB4.size
    clear hb k0 k1 k2 k3 k4 k5 lt_c hZ hB hs hC h2
    generalize grow (redrawn w3 pq.d) pq.os = w4 at *
    have r0:w4.cell? ⟨w.heap.size + 1 + 1,0,none⟩ = some (.int .i64 0):=hZ4.cell 0
    have f_0:=hZ4.free 0
    have r1:w4.cell? ⟨w.heap.size + 1 + 1,1,none⟩ = some (.int .i64 0):=hZ4.cell 1
    have f_1:=hZ4.free 1
    have r2:w4.cell? ⟨w.heap.size + 1 + 1,2,none⟩ = some (.int .i64 0):=hZ4.cell 2
    have f_2:=hZ4.free 2
    have r3:w4.cell? ⟨w.heap.size + 1 + 1,3,none⟩ = some (.int .i64 0):=hZ4.cell 3
    have f_3:=hZ4.free 3
    have r4:w4.cell? ⟨w.heap.size + 1 + 1,4,none⟩ = some (.int .i64 0):=hZ4.cell 4
    have f_4:=hZ4.free 4
    have r5:w4.cell? ⟨w.heap.size + 1 + 1,5,none⟩ = some (.int .i64 0):=hZ4.cell 5
    have f_5:=hZ4.free 5
    have r6:w4.cell? ⟨w.heap.size + 1 + 1,6,none⟩ = some (.int .i64 0):=hZ4.cell 6
    have f_6:=hZ4.free 6
    have r7:w4.cell? ⟨w.heap.size + 1 + 1,7,none⟩ = some (.int .i64 0):=hZ4.cell 7
    have f_7:=hZ4.free 7
    have lt_z:=hZ4.lt
    have HZ:=Lib.hid hZ4
    clear hZ4
    go_wp2
    have hX:=HZ.out
    clear r0 r1 r2 r3 r4 r5 r6 r7
   next =>
    have hF:Blok ((((((((w4.setCell ⟨(w.heap.size + 1 + 1),0,none⟩ (.int .i64 x.id)).setCell ⟨(w.heap.size + 1 + 1),1,none⟩ (.int .i64 x.fr)).setCell ⟨(w.heap.size + 1 + 1),2,none⟩ (.int .i64 x.tn)).setCell ⟨(w.heap.size + 1 + 1),3,none⟩ (.int .i64 (x.st + dq))).setCell ⟨(w.heap.size + 1 + 1),4,none⟩ (.int .i64 x.en)).setCell ⟨(w.heap.size + 1 + 1),5,none⟩ (.int .i64 x.rt)).setCell ⟨(w.heap.size + 1 + 1),6,none⟩ (.int .i64 v)).setCell ⟨(w.heap.size + 1 + 1),7,none⟩ (.int .i64 rm)) (w.heap.size + 1 + 1) 86 #[.int .i64 x.id,.int .i64 x.fr,.int .i64 x.tn,.int .i64 (x.st + dq),.int .i64 x.en,.int .i64 x.rt,.int .i64 v,.int .i64 rm]:=by have h:=((((((((hX.set_ 0 (.int .i64 x.id)).set_ 1 (.int .i64 x.fr)).set_ 2 (.int .i64 x.tn)).set_ 3 (.int .i64 (x.st + dq))).set_ 4 (.int .i64 x.en)).set_ 5 (.int .i64 x.rt)).set_ 6 (.int .i64 v)).set_ 7 (.int .i64 rm)); simpa using h
    have hle0:w.heap.size ≤ (w.heap.size + 1 + 1):=by first | exact Nat.le_refl _ | omega
    have hWf:Below w.heap.size w ((((((((w4.setCell ⟨(w.heap.size + 1 + 1),0,none⟩ (.int .i64 x.id)).setCell ⟨(w.heap.size + 1 + 1),1,none⟩ (.int .i64 x.fr)).setCell ⟨(w.heap.size + 1 + 1),2,none⟩ (.int .i64 x.tn)).setCell ⟨(w.heap.size + 1 + 1),3,none⟩ (.int .i64 (x.st + dq))).setCell ⟨(w.heap.size + 1 + 1),4,none⟩ (.int .i64 x.en)).setCell ⟨(w.heap.size + 1 + 1),5,none⟩ (.int .i64 x.rt)).setCell ⟨(w.heap.size + 1 + 1),6,none⟩ (.int .i64 v)).setCell ⟨(w.heap.size + 1 + 1),7,none⟩ (.int .i64 rm)):=((((((((hB4.setCell (p:=⟨(w.heap.size + 1 + 1),0,none⟩) hle0 (.int .i64 x.id)).setCell (p:=⟨(w.heap.size + 1 + 1),1,none⟩) hle0 (.int .i64 x.fr)).setCell (p:=⟨(w.heap.size + 1 + 1),2,none⟩) hle0 (.int .i64 x.tn)).setCell (p:=⟨(w.heap.size + 1 + 1),3,none⟩) hle0 (.int .i64 (x.st + dq))).setCell (p:=⟨(w.heap.size + 1 + 1),4,none⟩) hle0 (.int .i64 x.en)).setCell (p:=⟨(w.heap.size + 1 + 1),5,none⟩) hle0 (.int .i64 x.rt)).setCell (p:=⟨(w.heap.size + 1 + 1),6,none⟩) hle0 (.int .i64 v)).setCell (p:=⟨(w.heap.size + 1 + 1),7,none⟩) hle0 (.int .i64 rm))
    have hlF:=hF.lt
    generalize ((((((((w4.setCell ⟨(w.heap.size + 1 + 1),0,none⟩ (.int .i64 x.id)).setCell ⟨(w.heap.size + 1 + 1),1,none⟩ (.int .i64 x.fr)).setCell ⟨(w.heap.size + 1 + 1),2,none⟩ (.int .i64 x.tn)).setCell ⟨(w.heap.size + 1 + 1),3,none⟩ (.int .i64 (x.st + dq))).setCell ⟨(w.heap.size + 1 + 1),4,none⟩ (.int .i64 x.en)).setCell ⟨(w.heap.size + 1 + 1),5,none⟩ (.int .i64 x.rt)).setCell ⟨(w.heap.size + 1 + 1),6,none⟩ (.int .i64 v)).setCell ⟨(w.heap.size + 1 + 1),7,none⟩ (.int .i64 rm)) = wf at *
    have r0:wf.cell? ⟨(w.heap.size + 1 + 1),0,none⟩ = some (.int .i64 x.id):=hF.cell 0
    have r1:wf.cell? ⟨(w.heap.size + 1 + 1),1,none⟩ = some (.int .i64 x.fr):=hF.cell 1
    have r2:wf.cell? ⟨(w.heap.size + 1 + 1),2,none⟩ = some (.int .i64 x.tn):=hF.cell 2
    have r3:wf.cell? ⟨(w.heap.size + 1 + 1),3,none⟩ = some (.int .i64 (x.st + dq)):=hF.cell 3
    have r4:wf.cell? ⟨(w.heap.size + 1 + 1),4,none⟩ = some (.int .i64 x.en):=hF.cell 4
    have r5:wf.cell? ⟨(w.heap.size + 1 + 1),5,none⟩ = some (.int .i64 x.rt):=hF.cell 5
    have r6:wf.cell? ⟨(w.heap.size + 1 + 1),6,none⟩ = some (.int .i64 v):=hF.cell 6
    have r7:wf.cell? ⟨(w.heap.size + 1 + 1),7,none⟩ = some (.int .i64 rm):=hF.cell 7
    refine bodyPost_ret (v:=.tuple #[.agg #[.int .i64 x.id,.int .i64 x.fr,.int .i64 x.tn,.int .i64 (x.st + dq),.int .i64 x.en,.int .i64 x.rt,.int .i64 v,.int .i64 rm],.bool true]) (by simp [results,Tryz.results51,go_sem,r0,r1,r2,r3,r4,r5,r6,r7,hlF]) rfl ?_
    rw [HOV3.out,HYV2.out]
    exact ⟨rfl,hWf⟩
   next =>
    have hF:Blok ((((((((w4.setCell ⟨(w.heap.size + 1 + 1),0,none⟩ (.int .i64 x.id)).setCell ⟨(w.heap.size + 1 + 1),1,none⟩ (.int .i64 x.fr)).setCell ⟨(w.heap.size + 1 + 1),2,none⟩ (.int .i64 x.tn)).setCell ⟨(w.heap.size + 1 + 1),3,none⟩ (.int .i64 1099511627776)).setCell ⟨(w.heap.size + 1 + 1),4,none⟩ (.int .i64 x.en)).setCell ⟨(w.heap.size + 1 + 1),5,none⟩ (.int .i64 x.rt)).setCell ⟨(w.heap.size + 1 + 1),6,none⟩ (.int .i64 v)).setCell ⟨(w.heap.size + 1 + 1),7,none⟩ (.int .i64 rm)) (w.heap.size + 1 + 1) 86 #[.int .i64 x.id,.int .i64 x.fr,.int .i64 x.tn,.int .i64 1099511627776,.int .i64 x.en,.int .i64 x.rt,.int .i64 v,.int .i64 rm]:=by have h:=((((((((hX.set_ 0 (.int .i64 x.id)).set_ 1 (.int .i64 x.fr)).set_ 2 (.int .i64 x.tn)).set_ 3 (.int .i64 1099511627776)).set_ 4 (.int .i64 x.en)).set_ 5 (.int .i64 x.rt)).set_ 6 (.int .i64 v)).set_ 7 (.int .i64 rm)); simpa using h
    have hle0:w.heap.size ≤ (w.heap.size + 1 + 1):=by first | exact Nat.le_refl _ | omega
    have hWf:Below w.heap.size w ((((((((w4.setCell ⟨(w.heap.size + 1 + 1),0,none⟩ (.int .i64 x.id)).setCell ⟨(w.heap.size + 1 + 1),1,none⟩ (.int .i64 x.fr)).setCell ⟨(w.heap.size + 1 + 1),2,none⟩ (.int .i64 x.tn)).setCell ⟨(w.heap.size + 1 + 1),3,none⟩ (.int .i64 1099511627776)).setCell ⟨(w.heap.size + 1 + 1),4,none⟩ (.int .i64 x.en)).setCell ⟨(w.heap.size + 1 + 1),5,none⟩ (.int .i64 x.rt)).setCell ⟨(w.heap.size + 1 + 1),6,none⟩ (.int .i64 v)).setCell ⟨(w.heap.size + 1 + 1),7,none⟩ (.int .i64 rm)):=((((((((hB4.setCell (p:=⟨(w.heap.size + 1 + 1),0,none⟩) hle0 (.int .i64 x.id)).setCell (p:=⟨(w.heap.size + 1 + 1),1,none⟩) hle0 (.int .i64 x.fr)).setCell (p:=⟨(w.heap.size + 1 + 1),2,none⟩) hle0 (.int .i64 x.tn)).setCell (p:=⟨(w.heap.size + 1 + 1),3,none⟩) hle0 (.int .i64 1099511627776)).setCell (p:=⟨(w.heap.size + 1 + 1),4,none⟩) hle0 (.int .i64 x.en)).setCell (p:=⟨(w.heap.size + 1 + 1),5,none⟩) hle0 (.int .i64 x.rt)).setCell (p:=⟨(w.heap.size + 1 + 1),6,none⟩) hle0 (.int .i64 v)).setCell (p:=⟨(w.heap.size + 1 + 1),7,none⟩) hle0 (.int .i64 rm))
    have hlF:=hF.lt
    generalize ((((((((w4.setCell ⟨(w.heap.size + 1 + 1),0,none⟩ (.int .i64 x.id)).setCell ⟨(w.heap.size + 1 + 1),1,none⟩ (.int .i64 x.fr)).setCell ⟨(w.heap.size + 1 + 1),2,none⟩ (.int .i64 x.tn)).setCell ⟨(w.heap.size + 1 + 1),3,none⟩ (.int .i64 1099511627776)).setCell ⟨(w.heap.size + 1 + 1),4,none⟩ (.int .i64 x.en)).setCell ⟨(w.heap.size + 1 + 1),5,none⟩ (.int .i64 x.rt)).setCell ⟨(w.heap.size + 1 + 1),6,none⟩ (.int .i64 v)).setCell ⟨(w.heap.size + 1 + 1),7,none⟩ (.int .i64 rm)) = wf at *
    have r0:wf.cell? ⟨(w.heap.size + 1 + 1),0,none⟩ = some (.int .i64 x.id):=hF.cell 0
    have r1:wf.cell? ⟨(w.heap.size + 1 + 1),1,none⟩ = some (.int .i64 x.fr):=hF.cell 1
    have r2:wf.cell? ⟨(w.heap.size + 1 + 1),2,none⟩ = some (.int .i64 x.tn):=hF.cell 2
    have r3:wf.cell? ⟨(w.heap.size + 1 + 1),3,none⟩ = some (.int .i64 1099511627776):=hF.cell 3
    have r4:wf.cell? ⟨(w.heap.size + 1 + 1),4,none⟩ = some (.int .i64 x.en):=hF.cell 4
    have r5:wf.cell? ⟨(w.heap.size + 1 + 1),5,none⟩ = some (.int .i64 x.rt):=hF.cell 5
    have r6:wf.cell? ⟨(w.heap.size + 1 + 1),6,none⟩ = some (.int .i64 v):=hF.cell 6
    have r7:wf.cell? ⟨(w.heap.size + 1 + 1),7,none⟩ = some (.int .i64 rm):=hF.cell 7
    refine bodyPost_ret (v:=.tuple #[.agg #[.int .i64 x.id,.int .i64 x.fr,.int .i64 x.tn,.int .i64 1099511627776,.int .i64 x.en,.int .i64 x.rt,.int .i64 v,.int .i64 rm],.bool true]) (by simp [results,Tryz.results51,go_sem,r0,r1,r2,r3,r4,r5,r6,r7,hlF]) rfl ?_
    rw [HOV3.out,HYV2.out]
    exact ⟨rfl,hWf⟩
end Go.Proofs.YtodcoockhkghdaaGreat.Kv
