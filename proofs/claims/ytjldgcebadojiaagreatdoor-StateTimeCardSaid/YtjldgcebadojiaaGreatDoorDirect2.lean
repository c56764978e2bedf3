/- direct.made, direct.Right. They make new memory alone. -/
import Derived.Test.YtjldgcebadojiaaGreatDoorDirect
namespace Go.Proofs.YtjldgcebadojiaaGreatDoor
open Go.ChangeShapes Go.WideShapes Go.ChangeAt Go.RowKit Go.Sort
set_option linter.unusedSimpArgs false
set_option linter.unusedVariables false
def withDo (y:Dr) (op kd:Int):Dr:=⟨op,kd,y.id,y.fr,y.tn,y.st,y.en,y.rt,y.rf,y.rn,y.rs,y.re,y.ro⟩
def EnterF (f:FuncId):Prop:=∀ vals w,(callFunc f vals).run Tryz.prog w = .ok (.enter f vals) w
set_option maxHeartbeats 2000000 in
set_option maxRecDepth 100000 in
theorem made_any (f1 f2 f3:FuncId) (A:Option Addr) (n c:Nat) (ns:List Int) (y:Dr) (op kd:Int) (he:EnterF f2)
  (hf:∀ w,Sl w w.heap.size 1 A n c (ns.map (Value.int .i64)) → Calls Tryz.prog f2 #[.slice A n c] w fun e w' => e = .returned (.agg #[.int .i64 y.op,.int .i64 y.kd,.int .i64 y.id,.int .i64 y.fr,.int .i64 y.tn,.int .i64 y.st,.int .i64 y.en,.int .i64 y.rt,.int .i64 y.rf,.int .i64 y.rn,.int .i64 y.rs,.int .i64 y.re,.int .i64 y.ro]) ∧ Below w.heap.size w w')
  (w:World) (h:Sl w w.heap.size 1 A n c (ns.map (Value.int .i64))) :
  Calls Tryz.prog 111 #[.int .i64 op,.int .i64 kd,formOf f1 f2 f3,.slice A n c] w fun e w' => e = .returned (.agg #[.int .i64 (withDo y op kd).op,.int .i64 (withDo y op kd).kd,.int .i64 (withDo y op kd).id,.int .i64 (withDo y op kd).fr,.int .i64 (withDo y op kd).tn,.int .i64 (withDo y op kd).st,.int .i64 (withDo y op kd).en,.int .i64 (withDo y op kd).rt,.int .i64 (withDo y op kd).rf,.int .i64 (withDo y op kd).rn,.int .i64 (withDo y op kd).rs,.int .i64 (withDo y op kd).re,.int .i64 (withDo y op kd).ro]) ∧ Below w.heap.size w w':=by
 have hB:Below w.heap.size w ((w.alloc (.cells #[fnV f1,fnV f2,fnV f3] 126)).alloc (.cells #[.int .i64 0,.int .i64 0,.int .i64 0,.int .i64 0,.int .i64 0,.int .i64 0,.int .i64 0,.int .i64 0,.int .i64 0,.int .i64 0,.int .i64 0,.int .i64 0,.int .i64 0] 38)):=by (repeat (first | exact Below.refl _ _ | refine Below.alloc ?_ (by first | omega | (simp; done) | (simp; omega)) _ | refine Below.setCell ?_ (by first | omega | (simp; done) | (simp; omega)) _ | refine Below.drew ?_))
 have hF:=(Blok.new w 126 #[fnV f1,fnV f2,fnV f3]).alloc (.cells #[.int .i64 0,.int .i64 0,.int .i64 0,.int .i64 0,.int .i64 0,.int .i64 0,.int .i64 0,.int .i64 0,.int .i64 0,.int .i64 0,.int .i64 0,.int .i64 0,.int .i64 0] 38)
 have hR:=Blok.new (w.alloc (.cells #[fnV f1,fnV f2,fnV f3] 126)) 38 #[.int .i64 0,.int .i64 0,.int .i64 0,.int .i64 0,.int .i64 0,.int .i64 0,.int .i64 0,.int .i64 0,.int .i64 0,.int .i64 0,.int .i64 0,.int .i64 0,.int .i64 0]
 simp only [World.size_alloc] at hR
 replace h:=h.up hB
 have hs:=hB.size
 have HF:=Lib.hid hf
 have hcf:=he
 unfold EnterF at hcf
 clear hf he
 unfold formOf fnV at *
 go_enter Tryz.func111,Tryz.ntmps111
 go_upto_region 1 with fail
 generalize (w.alloc (.cells #[.func (.func f1) #[] #[],.func (.func f2) #[] #[],.func (.func f3) #[] #[]] 126)).alloc (.cells #[.int .i64 0,.int .i64 0,.int .i64 0,.int .i64 0,.int .i64 0,.int .i64 0,.int .i64 0,.int .i64 0,.int .i64 0,.int .i64 0,.int .i64 0,.int .i64 0,.int .i64 0] 38) = w0 at *
 have r1:w0.cell? ⟨w.heap.size,1,none⟩ = some (.func (.func f2) #[] #[]):=hF.cell 1
 have lt_f:=hF.lt
 go_wp2_with fail
 refine (HF.out w0 h).mono ?_
 rintro e w1 ⟨rfl,hb⟩
 clear r1 lt_f hcf HF
 replace hR:=hR.below hb hR.lt
 replace hB:=hB.trans (hb.mono hs)
 replace hs:=hB.size
 clear hb
 go_upto_region 2 with fail
 have hX:=Blok.new w1 38 #[.int .i64 y.op,.int .i64 y.kd,.int .i64 y.id,.int .i64 y.fr,.int .i64 y.tn,.int .i64 y.st,.int .i64 y.en,.int .i64 y.rt,.int .i64 y.rf,.int .i64 y.rn,.int .i64 y.rs,.int .i64 y.re,.int .i64 y.ro]
 have hb:Below w1.heap.size w1 (w1.alloc (.cells #[.int .i64 y.op,.int .i64 y.kd,.int .i64 y.id,.int .i64 y.fr,.int .i64 y.tn,.int .i64 y.st,.int .i64 y.en,.int .i64 y.rt,.int .i64 y.rf,.int .i64 y.rn,.int .i64 y.rs,.int .i64 y.re,.int .i64 y.ro] 38)):=by (repeat (first | exact Below.refl _ _ | refine Below.alloc ?_ (by first | omega | (simp; done) | (simp; omega)) _ | refine Below.setCell ?_ (by first | omega | (simp; done) | (simp; omega)) _ | refine Below.drew ?_))
 have hne:w.heap.size ≤ w1.heap.size:=hs
 have hlt:w.heap.size + 1 < w1.heap.size:=hR.lt
 replace hR:=hR.below hb hR.lt
 replace hB:=hB.trans (hb.mono hs)
 replace hs:=hB.size
 clear hb
 generalize w1.alloc (.cells #[.int .i64 y.op,.int .i64 y.kd,.int .i64 y.id,.int .i64 y.fr,.int .i64 y.tn,.int .i64 y.st,.int .i64 y.en,.int .i64 y.rt,.int .i64 y.rf,.int .i64 y.rn,.int .i64 y.rs,.int .i64 y.re,.int .i64 y.ro] 38) = w2 at *
 generalize w1.heap.size = bx at *
 have r0:w2.cell? ⟨bx,0,none⟩ = some (.int .i64 y.op):=hX.cell 0
 have f0:=hX.free 0
 have r1:w2.cell? ⟨bx,1,none⟩ = some (.int .i64 y.kd):=hX.cell 1
 have f1:=hX.free 1
 have lt_x:=hX.lt
 have HX:=Lib.hid hX
 have HRR:=Lib.hid hR
 clear hX hR
 go_upto_region 3 with fail
 have hX:=(HX.out.set_ 0 (.int .i64 op)).set_ 1 (.int .i64 kd)
 have hB2:=(hB.setCell (p:=⟨bx,0,none⟩) hne (.int .i64 op)).setCell (p:=⟨bx,1,none⟩) hne (.int .i64 kd)
 have hR:=(HRR.out.far (p:=⟨bx,0,none⟩) (by show w.heap.size + 1 ≠ bx; omega) (.int .i64 op)).far (p:=⟨bx,1,none⟩) (by show w.heap.size + 1 ≠ bx; omega) (.int .i64 kd)
 clear r0 f0 r1 f1 lt_x HX HRR hB hs
 generalize (w2.setCell ⟨bx,0,none⟩ (.int .i64 op)).setCell ⟨bx,1,none⟩ (.int .i64 kd) = w3 at *
 have x0:w3.cell? ⟨bx,0,none⟩ = some (.int .i64 op):=hX.cell 0
 have r0:w3.cell? ⟨w.heap.size + 1,0,none⟩ = some (.int .i64 0):=hR.cell 0
 have f_0:=hR.free 0
 have x1:w3.cell? ⟨bx,1,none⟩ = some (.int .i64 kd):=hX.cell 1
 have r1:w3.cell? ⟨w.heap.size + 1,1,none⟩ = some (.int .i64 0):=hR.cell 1
 have f_1:=hR.free 1
 have x2:w3.cell? ⟨bx,2,none⟩ = some (.int .i64 y.id):=hX.cell 2
 have r2:w3.cell? ⟨w.heap.size + 1,2,none⟩ = some (.int .i64 0):=hR.cell 2
 have f_2:=hR.free 2
 have x3:w3.cell? ⟨bx,3,none⟩ = some (.int .i64 y.fr):=hX.cell 3
 have r3:w3.cell? ⟨w.heap.size + 1,3,none⟩ = some (.int .i64 0):=hR.cell 3
 have f_3:=hR.free 3
 have x4:w3.cell? ⟨bx,4,none⟩ = some (.int .i64 y.tn):=hX.cell 4
 have r4:w3.cell? ⟨w.heap.size + 1,4,none⟩ = some (.int .i64 0):=hR.cell 4
 have f_4:=hR.free 4
 have x5:w3.cell? ⟨bx,5,none⟩ = some (.int .i64 y.st):=hX.cell 5
 have r5:w3.cell? ⟨w.heap.size + 1,5,none⟩ = some (.int .i64 0):=hR.cell 5
 have f_5:=hR.free 5
 have x6:w3.cell? ⟨bx,6,none⟩ = some (.int .i64 y.en):=hX.cell 6
 have r6:w3.cell? ⟨w.heap.size + 1,6,none⟩ = some (.int .i64 0):=hR.cell 6
 have f_6:=hR.free 6
 have x7:w3.cell? ⟨bx,7,none⟩ = some (.int .i64 y.rt):=hX.cell 7
 have r7:w3.cell? ⟨w.heap.size + 1,7,none⟩ = some (.int .i64 0):=hR.cell 7
 have f_7:=hR.free 7
 have x8:w3.cell? ⟨bx,8,none⟩ = some (.int .i64 y.rf):=hX.cell 8
 have r8:w3.cell? ⟨w.heap.size + 1,8,none⟩ = some (.int .i64 0):=hR.cell 8
 have f_8:=hR.free 8
 have x9:w3.cell? ⟨bx,9,none⟩ = some (.int .i64 y.rn):=hX.cell 9
 have r9:w3.cell? ⟨w.heap.size + 1,9,none⟩ = some (.int .i64 0):=hR.cell 9
 have f_9:=hR.free 9
 have x10:w3.cell? ⟨bx,10,none⟩ = some (.int .i64 y.rs):=hX.cell 10
 have r10:w3.cell? ⟨w.heap.size + 1,10,none⟩ = some (.int .i64 0):=hR.cell 10
 have f_10:=hR.free 10
 have x11:w3.cell? ⟨bx,11,none⟩ = some (.int .i64 y.re):=hX.cell 11
 have r11:w3.cell? ⟨w.heap.size + 1,11,none⟩ = some (.int .i64 0):=hR.cell 11
 have f_11:=hR.free 11
 have x12:w3.cell? ⟨bx,12,none⟩ = some (.int .i64 y.ro):=hX.cell 12
 have r12:w3.cell? ⟨w.heap.size + 1,12,none⟩ = some (.int .i64 0):=hR.cell 12
 have f_12:=hR.free 12
 have lt_x:=hX.lt
 have lt_r:=hR.lt
 have HRR:=Lib.hid hR
 clear hX hR
 go_wp2_with fail
 have hX:=HRR.out
 have hB:=hB2
 clear r0 r1 r2 r3 r4 r5 r6 r7 r8 r9 r10 r11 r12 x0 x1 x2 x3 x4 x5 x6 x7 x8 x9 x10 x11 x12
 have hF:Blok (((((((((((((w3.setCell ⟨(w.heap.size + 1),0,none⟩ (.int .i64 op)).setCell ⟨(w.heap.size + 1),1,none⟩ (.int .i64 kd)).setCell ⟨(w.heap.size + 1),2,none⟩ (.int .i64 y.id)).setCell ⟨(w.heap.size + 1),3,none⟩ (.int .i64 y.fr)).setCell ⟨(w.heap.size + 1),4,none⟩ (.int .i64 y.tn)).setCell ⟨(w.heap.size + 1),5,none⟩ (.int .i64 y.st)).setCell ⟨(w.heap.size + 1),6,none⟩ (.int .i64 y.en)).setCell ⟨(w.heap.size + 1),7,none⟩ (.int .i64 y.rt)).setCell ⟨(w.heap.size + 1),8,none⟩ (.int .i64 y.rf)).setCell ⟨(w.heap.size + 1),9,none⟩ (.int .i64 y.rn)).setCell ⟨(w.heap.size + 1),10,none⟩ (.int .i64 y.rs)).setCell ⟨(w.heap.size + 1),11,none⟩ (.int .i64 y.re)).setCell ⟨(w.heap.size + 1),12,none⟩ (.int .i64 y.ro)) (w.heap.size + 1) 38 #[.int .i64 op,.int .i64 kd,.int .i64 y.id,.int .i64 y.fr,.int .i64 y.tn,.int .i64 y.st,.int .i64 y.en,.int .i64 y.rt,.int .i64 y.rf,.int .i64 y.rn,.int .i64 y.rs,.int .i64 y.re,.int .i64 y.ro]:=by have h:=(((((((((((((hX.set_ 0 (.int .i64 op)).set_ 1 (.int .i64 kd)).set_ 2 (.int .i64 y.id)).set_ 3 (.int .i64 y.fr)).set_ 4 (.int .i64 y.tn)).set_ 5 (.int .i64 y.st)).set_ 6 (.int .i64 y.en)).set_ 7 (.int .i64 y.rt)).set_ 8 (.int .i64 y.rf)).set_ 9 (.int .i64 y.rn)).set_ 10 (.int .i64 y.rs)).set_ 11 (.int .i64 y.re)).set_ 12 (.int .i64 y.ro)); simpa using h
 have hle0:w.heap.size ≤ (w.heap.size + 1):=by first | exact Nat.le_refl _ | omega
 have hWf:Below w.heap.size w (((((((((((((w3.setCell ⟨(w.heap.size + 1),0,none⟩ (.int .i64 op)).setCell ⟨(w.heap.size + 1),1,none⟩ (.int .i64 kd)).setCell ⟨(w.heap.size + 1),2,none⟩ (.int .i64 y.id)).setCell ⟨(w.heap.size + 1),3,none⟩ (.int .i64 y.fr)).setCell ⟨(w.heap.size + 1),4,none⟩ (.int .i64 y.tn)).setCell ⟨(w.heap.size + 1),5,none⟩ (.int .i64 y.st)).setCell ⟨(w.heap.size + 1),6,none⟩ (.int .i64 y.en)).setCell ⟨(w.heap.size + 1),7,none⟩ (.int .i64 y.rt)).setCell ⟨(w.heap.size + 1),8,none⟩ (.int .i64 y.rf)).setCell ⟨(w.heap.size + 1),9,none⟩ (.int .i64 y.rn)).setCell ⟨(w.heap.size + 1),10,none⟩ (.int .i64 y.rs)).setCell ⟨(w.heap.size + 1),11,none⟩ (.int .i64 y.re)).setCell ⟨(w.heap.size + 1),12,none⟩ (.int .i64 y.ro)):=(((((((((((((hB.setCell (p:=⟨(w.heap.size + 1),0,none⟩) hle0 (.int .i64 op)).setCell (p:=⟨(w.heap.size + 1),1,none⟩) hle0 (.int .i64 kd)).setCell (p:=⟨(w.heap.size + 1),2,none⟩) hle0 (.int .i64 y.id)).setCell (p:=⟨(w.heap.size + 1),3,none⟩) hle0 (.int .i64 y.fr)).setCell (p:=⟨(w.heap.size + 1),4,none⟩) hle0 (.int .i64 y.tn)).setCell (p:=⟨(w.heap.size + 1),5,none⟩) hle0 (.int .i64 y.st)).setCell (p:=⟨(w.heap.size + 1),6,none⟩) hle0 (.int .i64 y.en)).setCell (p:=⟨(w.heap.size + 1),7,none⟩) hle0 (.int .i64 y.rt)).setCell (p:=⟨(w.heap.size + 1),8,none⟩) hle0 (.int .i64 y.rf)).setCell (p:=⟨(w.heap.size + 1),9,none⟩) hle0 (.int .i64 y.rn)).setCell (p:=⟨(w.heap.size + 1),10,none⟩) hle0 (.int .i64 y.rs)).setCell (p:=⟨(w.heap.size + 1),11,none⟩) hle0 (.int .i64 y.re)).setCell (p:=⟨(w.heap.size + 1),12,none⟩) hle0 (.int .i64 y.ro))
 have hlF:=hF.lt
 generalize (((((((((((((w3.setCell ⟨(w.heap.size + 1),0,none⟩ (.int .i64 op)).setCell ⟨(w.heap.size + 1),1,none⟩ (.int .i64 kd)).setCell ⟨(w.heap.size + 1),2,none⟩ (.int .i64 y.id)).setCell ⟨(w.heap.size + 1),3,none⟩ (.int .i64 y.fr)).setCell ⟨(w.heap.size + 1),4,none⟩ (.int .i64 y.tn)).setCell ⟨(w.heap.size + 1),5,none⟩ (.int .i64 y.st)).setCell ⟨(w.heap.size + 1),6,none⟩ (.int .i64 y.en)).setCell ⟨(w.heap.size + 1),7,none⟩ (.int .i64 y.rt)).setCell ⟨(w.heap.size + 1),8,none⟩ (.int .i64 y.rf)).setCell ⟨(w.heap.size + 1),9,none⟩ (.int .i64 y.rn)).setCell ⟨(w.heap.size + 1),10,none⟩ (.int .i64 y.rs)).setCell ⟨(w.heap.size + 1),11,none⟩ (.int .i64 y.re)).setCell ⟨(w.heap.size + 1),12,none⟩ (.int .i64 y.ro)) = wf at *
 have r0:wf.cell? ⟨(w.heap.size + 1),0,none⟩ = some (.int .i64 op):=hF.cell 0
 have r1:wf.cell? ⟨(w.heap.size + 1),1,none⟩ = some (.int .i64 kd):=hF.cell 1
 have r2:wf.cell? ⟨(w.heap.size + 1),2,none⟩ = some (.int .i64 y.id):=hF.cell 2
 have r3:wf.cell? ⟨(w.heap.size + 1),3,none⟩ = some (.int .i64 y.fr):=hF.cell 3
 have r4:wf.cell? ⟨(w.heap.size + 1),4,none⟩ = some (.int .i64 y.tn):=hF.cell 4
 have r5:wf.cell? ⟨(w.heap.size + 1),5,none⟩ = some (.int .i64 y.st):=hF.cell 5
 have r6:wf.cell? ⟨(w.heap.size + 1),6,none⟩ = some (.int .i64 y.en):=hF.cell 6
 have r7:wf.cell? ⟨(w.heap.size + 1),7,none⟩ = some (.int .i64 y.rt):=hF.cell 7
 have r8:wf.cell? ⟨(w.heap.size + 1),8,none⟩ = some (.int .i64 y.rf):=hF.cell 8
 have r9:wf.cell? ⟨(w.heap.size + 1),9,none⟩ = some (.int .i64 y.rn):=hF.cell 9
 have r10:wf.cell? ⟨(w.heap.size + 1),10,none⟩ = some (.int .i64 y.rs):=hF.cell 10
 have r11:wf.cell? ⟨(w.heap.size + 1),11,none⟩ = some (.int .i64 y.re):=hF.cell 11
 have r12:wf.cell? ⟨(w.heap.size + 1),12,none⟩ = some (.int .i64 y.ro):=hF.cell 12
 refine bodyPost_ret (v:=.agg #[.int .i64 op,.int .i64 kd,.int .i64 y.id,.int .i64 y.fr,.int .i64 y.tn,.int .i64 y.st,.int .i64 y.en,.int .i64 y.rt,.int .i64 y.rf,.int .i64 y.rn,.int .i64 y.rs,.int .i64 y.re,.int .i64 y.ro]) (by simp [results,Tryz.results111,go_sem,r0,r1,r2,r3,r4,r5,r6,r7,r8,r9,r10,r11,r12,hlF]) rfl ?_
 exact ⟨rfl,hWf⟩
/-- What a form's functions do. -/
structure FormC (d:Dr) (f1 f2 f3:FuncId) (ns:List Int) (y:Dr) (b:Bool):Prop where
 e1:EnterF f1
 e2:EnterF f2
 e3:EnterF f3
 nums:∀ w,Calls Tryz.prog f1 #[.agg #[.int .i64 d.op,.int .i64 d.kd,.int .i64 d.id,.int .i64 d.fr,.int .i64 d.tn,.int .i64 d.st,.int .i64 d.en,.int .i64 d.rt,.int .i64 d.rf,.int .i64 d.rn,.int .i64 d.rs,.int .i64 d.re,.int .i64 d.ro]] w fun e w' => ∃ v,e = .returned v ∧ w'.ownsRow w.heap.size 3 1 v ns.length (ns.map (Value.int .i64)) ∧ Below w.heap.size w w'
 fill:∀ A c w,Sl w w.heap.size 1 A ns.length c (ns.map (Value.int .i64)) → Calls Tryz.prog f2 #[.slice A ns.length c] w fun e w' => e = .returned (.agg #[.int .i64 y.op,.int .i64 y.kd,.int .i64 y.id,.int .i64 y.fr,.int .i64 y.tn,.int .i64 y.st,.int .i64 y.en,.int .i64 y.rt,.int .i64 y.rf,.int .i64 y.rn,.int .i64 y.rs,.int .i64 y.re,.int .i64 y.ro]) ∧ Below w.heap.size w w'
 may:∀ w,Calls Tryz.prog f3 #[.agg #[.int .i64 d.op,.int .i64 d.kd,.int .i64 d.id,.int .i64 d.fr,.int .i64 d.tn,.int .i64 d.st,.int .i64 d.en,.int .i64 d.rt,.int .i64 d.rf,.int .i64 d.rn,.int .i64 d.rs,.int .i64 d.re,.int .i64 d.ro]] w fun e w' => e = .returned (.bool b) ∧ Below w.heap.size w w'
/-- The directive that d's named numbers make. -/
def keepD (d:Dr):Dr:=
 if d.op = 1 ∧ d.kd = 1 then withDo (fill0 d) d.op d.kd
 else if d.op = 2 ∧ d.kd = 1 then withDo (fill1 d) d.op d.kd
 else if d.op = 3 ∧ d.kd = 1 then withDo (fill2 d) d.op d.kd
 else if d.op = 1 ∧ d.kd = 2 then withDo (fill3 d) d.op d.kd
 else if d.op = 2 ∧ d.kd = 2 then withDo (fill4 d) d.op d.kd
 else if d.op = 3 ∧ d.kd = 2 then withDo (fill5 d) d.op d.kd
 else zeroDr
def mayD (d:Dr):Bool:=
 if d.op = 1 ∧ d.kd = 1 then may0 d
 else if d.op = 2 ∧ d.kd = 1 then may1 d
 else if d.op = 3 ∧ d.kd = 1 then may2 d
 else if d.op = 1 ∧ d.kd = 2 then may3 d
 else if d.op = 2 ∧ d.kd = 2 then may4 d
 else if d.op = 3 ∧ d.kd = 2 then may5 d
 else false
def knownD (d:Dr):Bool:=(formV d.op d.kd).isSome
def rightD (d:Dr):Bool:=knownD d && (mayD d && decide (d = keepD d))
theorem formC0 (d:Dr):FormC d 157 158 159 (nums0 d) (fill0 d) (may0 d):=
 ⟨enter_run Tryz.func157 rfl rfl,enter_run Tryz.func158 rfl rfl,enter_run Tryz.func159 rfl rfl,nums0_any d,fun A c w h => fill0_any d A c w h,fun w => may0_any d w _ rfl⟩
theorem formC1 (d:Dr):FormC d 160 161 162 (nums1 d) (fill1 d) (may1 d):=
 ⟨enter_run Tryz.func160 rfl rfl,enter_run Tryz.func161 rfl rfl,enter_run Tryz.func162 rfl rfl,nums1_any d,fun A c w h => fill1_any d A c w h,fun w => may1_any d w _ rfl⟩
theorem formC2 (d:Dr):FormC d 164 165 166 (nums2 d) (fill2 d) (may2 d):=
 ⟨enter_run Tryz.func164 rfl rfl,enter_run Tryz.func165 rfl rfl,enter_run Tryz.func166 rfl rfl,nums2_any d,fun A c w h => fill2_any d A c w h,fun w => may2_any d w _ rfl⟩
theorem formC3 (d:Dr):FormC d 167 168 169 (nums3 d) (fill3 d) (may3 d):=
 ⟨enter_run Tryz.func167 rfl rfl,enter_run Tryz.func168 rfl rfl,enter_run Tryz.func169 rfl rfl,nums3_any d,fun A c w h => fill3_any d A c w h,fun w => may3_any d w _ rfl⟩
theorem formC4 (d:Dr):FormC d 170 171 172 (nums4 d) (fill4 d) (may4 d):=
 ⟨enter_run Tryz.func170 rfl rfl,enter_run Tryz.func171 rfl rfl,enter_run Tryz.func172 rfl rfl,nums4_any d,fun A c w h => fill4_any d A c w h,fun w => may4_any d w _ rfl⟩
theorem formC5 (d:Dr):FormC d 174 175 176 (nums5 d) (fill5 d) (may5 d):=
 ⟨enter_run Tryz.func174 rfl rfl,enter_run Tryz.func175 rfl rfl,enter_run Tryz.func176 rfl rfl,nums5_any d,fun A c w h => fill5_any d A c w h,fun w => may5_any d w _ rfl⟩
theorem form_cases (d:Dr):(formV d.op d.kd = none ∧ knownD d = false) ∨ (knownD d = true ∧ ∃ f1 f2 f3 ns y,formV d.op d.kd = some (formOf f1 f2 f3) ∧ FormC d f1 f2 f3 ns y (mayD d) ∧ keepD d = withDo y d.op d.kd):=by
 by_cases c0:d.op = 1 ∧ d.kd = 1
 ·refine .inr ⟨by unfold knownD formV; simp [c0],157,158,159,nums0 d,fill0 d,by unfold formV; simp [c0],?_,by unfold keepD; simp [c0]⟩
  have:=formC0 d
  have e:mayD d = may0 d:=by unfold mayD; simp [c0]
  rw [e]
  exact this
 by_cases c1:d.op = 2 ∧ d.kd = 1
 ·refine .inr ⟨by unfold knownD formV; simp [c1],160,161,162,nums1 d,fill1 d,by unfold formV; simp [c1],?_,by unfold keepD; simp [c1]⟩
  have:=formC1 d
  have e:mayD d = may1 d:=by unfold mayD; simp [c1]
  rw [e]
  exact this
 by_cases c2:d.op = 3 ∧ d.kd = 1
 ·refine .inr ⟨by unfold knownD formV; simp [c2],164,165,166,nums2 d,fill2 d,by unfold formV; simp [c2],?_,by unfold keepD; simp [c2]⟩
  have:=formC2 d
  have e:mayD d = may2 d:=by unfold mayD; simp [c2]
  rw [e]
  exact this
 by_cases c3:d.op = 1 ∧ d.kd = 2
 ·refine .inr ⟨by unfold knownD formV; simp [c3],167,168,169,nums3 d,fill3 d,by unfold formV; simp [c3],?_,by unfold keepD; simp [c3]⟩
  have:=formC3 d
  have e:mayD d = may3 d:=by unfold mayD; simp [c3]
  rw [e]
  exact this
 by_cases c4:d.op = 2 ∧ d.kd = 2
 ·refine .inr ⟨by unfold knownD formV; simp [c4],170,171,172,nums4 d,fill4 d,by unfold formV; simp [c4],?_,by unfold keepD; simp [c4]⟩
  have:=formC4 d
  have e:mayD d = may4 d:=by unfold mayD; simp [c4]
  rw [e]
  exact this
 by_cases c5:d.op = 3 ∧ d.kd = 2
 ·refine .inr ⟨by unfold knownD formV; simp [c5],174,175,176,nums5 d,fill5 d,by unfold formV; simp [c5],?_,by unfold keepD; simp [c5]⟩
  have:=formC5 d
  have e:mayD d = may5 d:=by unfold mayD; simp [c5]
  rw [e]
  exact this
 exact .inl (by unfold knownD formV; simp [c0,c1,c2,c3,c4,c5])
end Go.Proofs.YtjldgcebadojiaaGreatDoor
