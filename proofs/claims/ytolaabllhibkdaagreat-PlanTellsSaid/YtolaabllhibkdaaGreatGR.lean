/- Several texts of mine in one: Direct2, Direct3. No condition. -/
import Derived.Test.YtolaabllhibkdaaGreatDirect
import Derived.Laws.EntriesVeiled

/- direct.made, direct.Right. They make new memory alone. -/
namespace Go.Proofs.YtolaabllhibkdaaGreat
open Go.ChangeShapes Go.WideShapes Go.ChangeAt Go.RowKit Go.Sort
set_option linter.unusedSimpArgs false
set_option linter.unusedVariables false
def withDo (y:Dr) (op kd:Int):Dr:=⟨op,kd,y.id,y.fr,y.tn,y.st,y.en,y.rt,y.rf,y.rn,y.rs,y.re,y.ro⟩
def EnterF (f:FuncId):Prop:=∀ vals w,(callFunc f vals).run Tryz.prog w = .ok (.enter f vals) w
set_option maxHeartbeats 2000000 in
set_option maxRecDepth 100000 in
theorem made_any (f1 f2 f3:FuncId) (A:Option Addr) (n c:Nat) (ns:List Int) (y:Dr) (op kd:Int) (he:EnterF f2)
  (hf:∀ w,Sl w w.heap.size 1 A n c (ns.map (Value.int .i64)) → Calls Tryz.prog f2 #[.slice A n c] w fun e w' => e = .returned (.agg #[.int .i64 y.op,.int .i64 y.kd,.int .i64 y.id,.int .i64 y.fr,.int .i64 y.tn,.int .i64 y.st,.int .i64 y.en,.int .i64 y.rt,.int .i64 y.rf,.int .i64 y.rn,.int .i64 y.rs,.int .i64 y.re,.int .i64 y.ro]) ∧ Below w.heap.size w w')
  (w:World) (h:Sl w w.heap.size 1 A n c (ns.map (Value.int .i64))) :
  Calls Tryz.prog 101 #[.int .i64 op,.int .i64 kd,formOf f1 f2 f3,.slice A n c] w fun e w' => e = .returned (.agg #[.int .i64 (withDo y op kd).op,.int .i64 (withDo y op kd).kd,.int .i64 (withDo y op kd).id,.int .i64 (withDo y op kd).fr,.int .i64 (withDo y op kd).tn,.int .i64 (withDo y op kd).st,.int .i64 (withDo y op kd).en,.int .i64 (withDo y op kd).rt,.int .i64 (withDo y op kd).rf,.int .i64 (withDo y op kd).rn,.int .i64 (withDo y op kd).rs,.int .i64 (withDo y op kd).re,.int .i64 (withDo y op kd).ro]) ∧ Below w.heap.size w w':=by
 have hB:Below w.heap.size w ((w.alloc (.cells #[fnV f1,fnV f2,fnV f3] 106)).alloc (.cells #[.int .i64 0,.int .i64 0,.int .i64 0,.int .i64 0,.int .i64 0,.int .i64 0,.int .i64 0,.int .i64 0,.int .i64 0,.int .i64 0,.int .i64 0,.int .i64 0,.int .i64 0] 37)):=by (repeat (first | exact Below.refl _ _ | refine Below.alloc ?_ (by first | omega | (simp; done) | (simp; omega)) _ | refine Below.setCell ?_ (by first | omega | (simp; done) | (simp; omega)) _ | refine Below.drew ?_))
 have hF:=(Blok.new w 106 #[fnV f1,fnV f2,fnV f3]).alloc (.cells #[.int .i64 0,.int .i64 0,.int .i64 0,.int .i64 0,.int .i64 0,.int .i64 0,.int .i64 0,.int .i64 0,.int .i64 0,.int .i64 0,.int .i64 0,.int .i64 0,.int .i64 0] 37)
 have hR:=Blok.new (w.alloc (.cells #[fnV f1,fnV f2,fnV f3] 106)) 37 #[.int .i64 0,.int .i64 0,.int .i64 0,.int .i64 0,.int .i64 0,.int .i64 0,.int .i64 0,.int .i64 0,.int .i64 0,.int .i64 0,.int .i64 0,.int .i64 0,.int .i64 0]
 simp only [World.size_alloc] at hR
 replace h:=h.up hB
 have hs:=hB.size
 have HF:=Lib.hid hf
 have hcf:=he
 unfold EnterF at hcf
 clear hf he
 unfold formOf fnV at *
 go_enter Tryz.func101,Tryz.ntmps101
 go_upto_region 1 with fail
 generalize (w.alloc (.cells #[.func (.func f1) #[] #[],.func (.func f2) #[] #[],.func (.func f3) #[] #[]] 106)).alloc (.cells #[.int .i64 0,.int .i64 0,.int .i64 0,.int .i64 0,.int .i64 0,.int .i64 0,.int .i64 0,.int .i64 0,.int .i64 0,.int .i64 0,.int .i64 0,.int .i64 0,.int .i64 0] 37) = w0 at *
 have r1:w0.cell? ⟨w.heap.size,1,none⟩ = some (.func (.func f2) #[] #[]):=hF.cell 1
 have lt_f:=hF.lt
 go_wp2_with fail
 refine (HF.out w0 h).mono ?_
 rintro e w1 ⟨rfl,hb⟩
 clear r1 lt_f hcf HF
 replace hR:=hR.below hb hR.lt
 replace hB:=hB.trans (hb.mono hs)
 replace hs:=hB.size
 clear hb
 go_upto_region 2 with fail
 have hX:=Blok.new w1 37 #[.int .i64 y.op,.int .i64 y.kd,.int .i64 y.id,.int .i64 y.fr,.int .i64 y.tn,.int .i64 y.st,.int .i64 y.en,.int .i64 y.rt,.int .i64 y.rf,.int .i64 y.rn,.int .i64 y.rs,.int .i64 y.re,.int .i64 y.ro]
 have hb:Below w1.heap.size w1 (w1.alloc (.cells #[.int .i64 y.op,.int .i64 y.kd,.int .i64 y.id,.int .i64 y.fr,.int .i64 y.tn,.int .i64 y.st,.int .i64 y.en,.int .i64 y.rt,.int .i64 y.rf,.int .i64 y.rn,.int .i64 y.rs,.int .i64 y.re,.int .i64 y.ro] 37)):=by (repeat (first | exact Below.refl _ _ | refine Below.alloc ?_ (by first | omega | (simp; done) | (simp; omega)) _ | refine Below.setCell ?_ (by first | omega | (simp; done) | (simp; omega)) _ | refine Below.drew ?_))
 have hne:w.heap.size ≤ w1.heap.size:=hs
 have hlt:w.heap.size + 1 < w1.heap.size:=hR.lt
 replace hR:=hR.below hb hR.lt
 replace hB:=hB.trans (hb.mono hs)
 replace hs:=hB.size
 clear hb
 generalize w1.alloc (.cells #[.int .i64 y.op,.int .i64 y.kd,.int .i64 y.id,.int .i64 y.fr,.int .i64 y.tn,.int .i64 y.st,.int .i64 y.en,.int .i64 y.rt,.int .i64 y.rf,.int .i64 y.rn,.int .i64 y.rs,.int .i64 y.re,.int .i64 y.ro] 37) = w2 at *
 generalize w1.heap.size = bx at *
 have r0:w2.cell? ⟨bx,0,none⟩ = some (.int .i64 y.op):=hX.cell 0
 have f0:=hX.free 0
 have r1:w2.cell? ⟨bx,1,none⟩ = some (.int .i64 y.kd):=hX.cell 1
 have f1:=hX.free 1
 have lt_x:=hX.lt
 have HX:=Lib.hid hX
 have HRR:=Lib.hid hR
 clear hX hR
 go_upto_region 3 with fail
 have hX:=(HX.out.set_ 0 (.int .i64 op)).set_ 1 (.int .i64 kd)
 have hB2:=(hB.setCell (p:=⟨bx,0,none⟩) hne (.int .i64 op)).setCell (p:=⟨bx,1,none⟩) hne (.int .i64 kd)
 have hR:=(HRR.out.far (p:=⟨bx,0,none⟩) (by show w.heap.size + 1 ≠ bx; omega) (.int .i64 op)).far (p:=⟨bx,1,none⟩) (by show w.heap.size + 1 ≠ bx; omega) (.int .i64 kd)
 clear r0 f0 r1 f1 lt_x HX HRR hB hs
 generalize (w2.setCell ⟨bx,0,none⟩ (.int .i64 op)).setCell ⟨bx,1,none⟩ (.int .i64 kd) = w3 at *
 have x0:w3.cell? ⟨bx,0,none⟩ = some (.int .i64 op):=hX.cell 0
 have r0:w3.cell? ⟨w.heap.size + 1,0,none⟩ = some (.int .i64 0):=hR.cell 0
 have f_0:=hR.free 0
 have x1:w3.cell? ⟨bx,1,none⟩ = some (.int .i64 kd):=hX.cell 1
 have r1:w3.cell? ⟨w.heap.size + 1,1,none⟩ = some (.int .i64 0):=hR.cell 1
 have f_1:=hR.free 1
 have x2:w3.cell? ⟨bx,2,none⟩ = some (.int .i64 y.id):=hX.cell 2
 have r2:w3.cell? ⟨w.heap.size + 1,2,none⟩ = some (.int .i64 0):=hR.cell 2
 have f_2:=hR.free 2
 have x3:w3.cell? ⟨bx,3,none⟩ = some (.int .i64 y.fr):=hX.cell 3
 have r3:w3.cell? ⟨w.heap.size + 1,3,none⟩ = some (.int .i64 0):=hR.cell 3
 have f_3:=hR.free 3
 have x4:w3.cell? ⟨bx,4,none⟩ = some (.int .i64 y.tn):=hX.cell 4
 have r4:w3.cell? ⟨w.heap.size + 1,4,none⟩ = some (.int .i64 0):=hR.cell 4
 have f_4:=hR.free 4
 have x5:w3.cell? ⟨bx,5,none⟩ = some (.int .i64 y.st):=hX.cell 5
 have r5:w3.cell? ⟨w.heap.size + 1,5,none⟩ = some (.int .i64 0):=hR.cell 5
 have f_5:=hR.free 5
 have x6:w3.cell? ⟨bx,6,none⟩ = some (.int .i64 y.en):=hX.cell 6
 have r6:w3.cell? ⟨w.heap.size + 1,6,none⟩ = some (.int .i64 0):=hR.cell 6
 have f_6:=hR.free 6
 have x7:w3.cell? ⟨bx,7,none⟩ = some (.int .i64 y.rt):=hX.cell 7
 have r7:w3.cell? ⟨w.heap.size + 1,7,none⟩ = some (.int .i64 0):=hR.cell 7
 have f_7:=hR.free 7
 have x8:w3.cell? ⟨bx,8,none⟩ = some (.int .i64 y.rf):=hX.cell 8
 have r8:w3.cell? ⟨w.heap.size + 1,8,none⟩ = some (.int .i64 0):=hR.cell 8
 have f_8:=hR.free 8
 have x9:w3.cell? ⟨bx,9,none⟩ = some (.int .i64 y.rn):=hX.cell 9
 have r9:w3.cell? ⟨w.heap.size + 1,9,none⟩ = some (.int .i64 0):=hR.cell 9
 have f_9:=hR.free 9
 have x10:w3.cell? ⟨bx,10,none⟩ = some (.int .i64 y.rs):=hX.cell 10
 have r10:w3.cell? ⟨w.heap.size + 1,10,none⟩ = some (.int .i64 0):=hR.cell 10
 have f_10:=hR.free 10
 have x11:w3.cell? ⟨bx,11,none⟩ = some (.int .i64 y.re):=hX.cell 11
 have r11:w3.cell? ⟨w.heap.size + 1,11,none⟩ = some (.int .i64 0):=hR.cell 11
 have f_11:=hR.free 11
 have x12:w3.cell? ⟨bx,12,none⟩ = some (.int .i64 y.ro):=hX.cell 12
 have r12:w3.cell? ⟨w.heap.size + 1,12,none⟩ = some (.int .i64 0):=hR.cell 12
 have f_12:=hR.free 12
 have lt_x:=hX.lt
 have lt_r:=hR.lt
 have HRR:=Lib.hid hR
 clear hX hR
 go_wp2_with fail
 have hX:=HRR.out
 have hB:=hB2
 clear r0 r1 r2 r3 r4 r5 r6 r7 r8 r9 r10 r11 r12 x0 x1 x2 x3 x4 x5 x6 x7 x8 x9 x10 x11 x12
 have hF:Blok (((((((((((((w3.setCell ⟨(w.heap.size + 1),0,none⟩ (.int .i64 op)).setCell ⟨(w.heap.size + 1),1,none⟩ (.int .i64 kd)).setCell ⟨(w.heap.size + 1),2,none⟩ (.int .i64 y.id)).setCell ⟨(w.heap.size + 1),3,none⟩ (.int .i64 y.fr)).setCell ⟨(w.heap.size + 1),4,none⟩ (.int .i64 y.tn)).setCell ⟨(w.heap.size + 1),5,none⟩ (.int .i64 y.st)).setCell ⟨(w.heap.size + 1),6,none⟩ (.int .i64 y.en)).setCell ⟨(w.heap.size + 1),7,none⟩ (.int .i64 y.rt)).setCell ⟨(w.heap.size + 1),8,none⟩ (.int .i64 y.rf)).setCell ⟨(w.heap.size + 1),9,none⟩ (.int .i64 y.rn)).setCell ⟨(w.heap.size + 1),10,none⟩ (.int .i64 y.rs)).setCell ⟨(w.heap.size + 1),11,none⟩ (.int .i64 y.re)).setCell ⟨(w.heap.size + 1),12,none⟩ (.int .i64 y.ro)) (w.heap.size + 1) 37 #[.int .i64 op,.int .i64 kd,.int .i64 y.id,.int .i64 y.fr,.int .i64 y.tn,.int .i64 y.st,.int .i64 y.en,.int .i64 y.rt,.int .i64 y.rf,.int .i64 y.rn,.int .i64 y.rs,.int .i64 y.re,.int .i64 y.ro]:=by have h:=(((((((((((((hX.set_ 0 (.int .i64 op)).set_ 1 (.int .i64 kd)).set_ 2 (.int .i64 y.id)).set_ 3 (.int .i64 y.fr)).set_ 4 (.int .i64 y.tn)).set_ 5 (.int .i64 y.st)).set_ 6 (.int .i64 y.en)).set_ 7 (.int .i64 y.rt)).set_ 8 (.int .i64 y.rf)).set_ 9 (.int .i64 y.rn)).set_ 10 (.int .i64 y.rs)).set_ 11 (.int .i64 y.re)).set_ 12 (.int .i64 y.ro)); simpa using h
 have hle0:w.heap.size ≤ (w.heap.size + 1):=by first | exact Nat.le_refl _ | omega
 have hWf:Below w.heap.size w (((((((((((((w3.setCell ⟨(w.heap.size + 1),0,none⟩ (.int .i64 op)).setCell ⟨(w.heap.size + 1),1,none⟩ (.int .i64 kd)).setCell ⟨(w.heap.size + 1),2,none⟩ (.int .i64 y.id)).setCell ⟨(w.heap.size + 1),3,none⟩ (.int .i64 y.fr)).setCell ⟨(w.heap.size + 1),4,none⟩ (.int .i64 y.tn)).setCell ⟨(w.heap.size + 1),5,none⟩ (.int .i64 y.st)).setCell ⟨(w.heap.size + 1),6,none⟩ (.int .i64 y.en)).setCell ⟨(w.heap.size + 1),7,none⟩ (.int .i64 y.rt)).setCell ⟨(w.heap.size + 1),8,none⟩ (.int .i64 y.rf)).setCell ⟨(w.heap.size + 1),9,none⟩ (.int .i64 y.rn)).setCell ⟨(w.heap.size + 1),10,none⟩ (.int .i64 y.rs)).setCell ⟨(w.heap.size + 1),11,none⟩ (.int .i64 y.re)).setCell ⟨(w.heap.size + 1),12,none⟩ (.int .i64 y.ro)):=(((((((((((((hB.setCell (p:=⟨(w.heap.size + 1),0,none⟩) hle0 (.int .i64 op)).setCell (p:=⟨(w.heap.size + 1),1,none⟩) hle0 (.int .i64 kd)).setCell (p:=⟨(w.heap.size + 1),2,none⟩) hle0 (.int .i64 y.id)).setCell (p:=⟨(w.heap.size + 1),3,none⟩) hle0 (.int .i64 y.fr)).setCell (p:=⟨(w.heap.size + 1),4,none⟩) hle0 (.int .i64 y.tn)).setCell (p:=⟨(w.heap.size + 1),5,none⟩) hle0 (.int .i64 y.st)).setCell (p:=⟨(w.heap.size + 1),6,none⟩) hle0 (.int .i64 y.en)).setCell (p:=⟨(w.heap.size + 1),7,none⟩) hle0 (.int .i64 y.rt)).setCell (p:=⟨(w.heap.size + 1),8,none⟩) hle0 (.int .i64 y.rf)).setCell (p:=⟨(w.heap.size + 1),9,none⟩) hle0 (.int .i64 y.rn)).setCell (p:=⟨(w.heap.size + 1),10,none⟩) hle0 (.int .i64 y.rs)).setCell (p:=⟨(w.heap.size + 1),11,none⟩) hle0 (.int .i64 y.re)).setCell (p:=⟨(w.heap.size + 1),12,none⟩) hle0 (.int .i64 y.ro))
 have hlF:=hF.lt
 generalize (((((((((((((w3.setCell ⟨(w.heap.size + 1),0,none⟩ (.int .i64 op)).setCell ⟨(w.heap.size + 1),1,none⟩ (.int .i64 kd)).setCell ⟨(w.heap.size + 1),2,none⟩ (.int .i64 y.id)).setCell ⟨(w.heap.size + 1),3,none⟩ (.int .i64 y.fr)).setCell ⟨(w.heap.size + 1),4,none⟩ (.int .i64 y.tn)).setCell ⟨(w.heap.size + 1),5,none⟩ (.int .i64 y.st)).setCell ⟨(w.heap.size + 1),6,none⟩ (.int .i64 y.en)).setCell ⟨(w.heap.size + 1),7,none⟩ (.int .i64 y.rt)).setCell ⟨(w.heap.size + 1),8,none⟩ (.int .i64 y.rf)).setCell ⟨(w.heap.size + 1),9,none⟩ (.int .i64 y.rn)).setCell ⟨(w.heap.size + 1),10,none⟩ (.int .i64 y.rs)).setCell ⟨(w.heap.size + 1),11,none⟩ (.int .i64 y.re)).setCell ⟨(w.heap.size + 1),12,none⟩ (.int .i64 y.ro)) = wf at *
 have r0:wf.cell? ⟨(w.heap.size + 1),0,none⟩ = some (.int .i64 op):=hF.cell 0
 have r1:wf.cell? ⟨(w.heap.size + 1),1,none⟩ = some (.int .i64 kd):=hF.cell 1
 have r2:wf.cell? ⟨(w.heap.size + 1),2,none⟩ = some (.int .i64 y.id):=hF.cell 2
 have r3:wf.cell? ⟨(w.heap.size + 1),3,none⟩ = some (.int .i64 y.fr):=hF.cell 3
 have r4:wf.cell? ⟨(w.heap.size + 1),4,none⟩ = some (.int .i64 y.tn):=hF.cell 4
 have r5:wf.cell? ⟨(w.heap.size + 1),5,none⟩ = some (.int .i64 y.st):=hF.cell 5
 have r6:wf.cell? ⟨(w.heap.size + 1),6,none⟩ = some (.int .i64 y.en):=hF.cell 6
 have r7:wf.cell? ⟨(w.heap.size + 1),7,none⟩ = some (.int .i64 y.rt):=hF.cell 7
 have r8:wf.cell? ⟨(w.heap.size + 1),8,none⟩ = some (.int .i64 y.rf):=hF.cell 8
 have r9:wf.cell? ⟨(w.heap.size + 1),9,none⟩ = some (.int .i64 y.rn):=hF.cell 9
 have r10:wf.cell? ⟨(w.heap.size + 1),10,none⟩ = some (.int .i64 y.rs):=hF.cell 10
 have r11:wf.cell? ⟨(w.heap.size + 1),11,none⟩ = some (.int .i64 y.re):=hF.cell 11
 have r12:wf.cell? ⟨(w.heap.size + 1),12,none⟩ = some (.int .i64 y.ro):=hF.cell 12
 refine bodyPost_ret (v:=.agg #[.int .i64 op,.int .i64 kd,.int .i64 y.id,.int .i64 y.fr,.int .i64 y.tn,.int .i64 y.st,.int .i64 y.en,.int .i64 y.rt,.int .i64 y.rf,.int .i64 y.rn,.int .i64 y.rs,.int .i64 y.re,.int .i64 y.ro]) (by simp [results,Tryz.results101,go_sem,r0,r1,r2,r3,r4,r5,r6,r7,r8,r9,r10,r11,r12,hlF]) rfl ?_
 exact ⟨rfl,hWf⟩
/-- What a form's functions do. -/
structure FormC (d:Dr) (f1 f2 f3:FuncId) (ns:List Int) (y:Dr) (b:Bool):Prop where
 e1:EnterF f1
 e2:EnterF f2
 e3:EnterF f3
 nums:∀ w,Calls Tryz.prog f1 #[.agg #[.int .i64 d.op,.int .i64 d.kd,.int .i64 d.id,.int .i64 d.fr,.int .i64 d.tn,.int .i64 d.st,.int .i64 d.en,.int .i64 d.rt,.int .i64 d.rf,.int .i64 d.rn,.int .i64 d.rs,.int .i64 d.re,.int .i64 d.ro]] w fun e w' => ∃ v,e = .returned v ∧ w'.ownsRow w.heap.size 3 1 v ns.length (ns.map (Value.int .i64)) ∧ Below w.heap.size w w'
 fill:∀ A c w,Sl w w.heap.size 1 A ns.length c (ns.map (Value.int .i64)) → Calls Tryz.prog f2 #[.slice A ns.length c] w fun e w' => e = .returned (.agg #[.int .i64 y.op,.int .i64 y.kd,.int .i64 y.id,.int .i64 y.fr,.int .i64 y.tn,.int .i64 y.st,.int .i64 y.en,.int .i64 y.rt,.int .i64 y.rf,.int .i64 y.rn,.int .i64 y.rs,.int .i64 y.re,.int .i64 y.ro]) ∧ Below w.heap.size w w'
 may:∀ w,Calls Tryz.prog f3 #[.agg #[.int .i64 d.op,.int .i64 d.kd,.int .i64 d.id,.int .i64 d.fr,.int .i64 d.tn,.int .i64 d.st,.int .i64 d.en,.int .i64 d.rt,.int .i64 d.rf,.int .i64 d.rn,.int .i64 d.rs,.int .i64 d.re,.int .i64 d.ro]] w fun e w' => e = .returned (.bool b) ∧ Below w.heap.size w w'
/-- The directive that d's named numbers make. -/
def keepD (d:Dr):Dr:=
 if d.op = 1 ∧ d.kd = 1 then withDo (fill0 d) d.op d.kd
 else if d.op = 2 ∧ d.kd = 1 then withDo (fill1 d) d.op d.kd
 else if d.op = 3 ∧ d.kd = 1 then withDo (fill2 d) d.op d.kd
 else if d.op = 1 ∧ d.kd = 2 then withDo (fill3 d) d.op d.kd
 else if d.op = 2 ∧ d.kd = 2 then withDo (fill4 d) d.op d.kd
 else if d.op = 3 ∧ d.kd = 2 then withDo (fill5 d) d.op d.kd
 else zeroDr
def mayD (d:Dr):Bool:=
 if d.op = 1 ∧ d.kd = 1 then may0 d
 else if d.op = 2 ∧ d.kd = 1 then may1 d
 else if d.op = 3 ∧ d.kd = 1 then may2 d
 else if d.op = 1 ∧ d.kd = 2 then may3 d
 else if d.op = 2 ∧ d.kd = 2 then may4 d
 else if d.op = 3 ∧ d.kd = 2 then may5 d
 else false
def knownD (d:Dr):Bool:=(formV d.op d.kd).isSome
def rightD (d:Dr):Bool:=knownD d && (mayD d && decide (d = keepD d))
theorem formC0 (d:Dr):FormC d 113 114 115 (nums0 d) (fill0 d) (may0 d):=
 ⟨enter_run Tryz.func113 rfl rfl,enter_run Tryz.func114 rfl rfl,enter_run Tryz.func115 rfl rfl,nums0_any d,fun A c w h => fill0_any d A c w h,fun w => may0_any d w _ rfl⟩
theorem formC1 (d:Dr):FormC d 116 117 118 (nums1 d) (fill1 d) (may1 d):=
 ⟨enter_run Tryz.func116 rfl rfl,enter_run Tryz.func117 rfl rfl,enter_run Tryz.func118 rfl rfl,nums1_any d,fun A c w h => fill1_any d A c w h,fun w => may1_any d w _ rfl⟩
theorem formC2 (d:Dr):FormC d 120 121 122 (nums2 d) (fill2 d) (may2 d):=
 ⟨enter_run Tryz.func120 rfl rfl,enter_run Tryz.func121 rfl rfl,enter_run Tryz.func122 rfl rfl,nums2_any d,fun A c w h => fill2_any d A c w h,fun w => may2_any d w _ rfl⟩
theorem formC3 (d:Dr):FormC d 123 124 125 (nums3 d) (fill3 d) (may3 d):=
 ⟨enter_run Tryz.func123 rfl rfl,enter_run Tryz.func124 rfl rfl,enter_run Tryz.func125 rfl rfl,nums3_any d,fun A c w h => fill3_any d A c w h,fun w => may3_any d w _ rfl⟩
theorem formC4 (d:Dr):FormC d 126 127 128 (nums4 d) (fill4 d) (may4 d):=
 ⟨enter_run Tryz.func126 rfl rfl,enter_run Tryz.func127 rfl rfl,enter_run Tryz.func128 rfl rfl,nums4_any d,fun A c w h => fill4_any d A c w h,fun w => may4_any d w _ rfl⟩
theorem formC5 (d:Dr):FormC d 130 131 132 (nums5 d) (fill5 d) (may5 d):=
 ⟨enter_run Tryz.func130 rfl rfl,enter_run Tryz.func131 rfl rfl,enter_run Tryz.func132 rfl rfl,nums5_any d,fun A c w h => fill5_any d A c w h,fun w => may5_any d w _ rfl⟩
theorem form_cases (d:Dr):(formV d.op d.kd = none ∧ knownD d = false) ∨ (knownD d = true ∧ ∃ f1 f2 f3 ns y,formV d.op d.kd = some (formOf f1 f2 f3) ∧ FormC d f1 f2 f3 ns y (mayD d) ∧ keepD d = withDo y d.op d.kd):=by
 by_cases c0:d.op = 1 ∧ d.kd = 1
 ·refine .inr ⟨by unfold knownD formV; simp [c0],113,114,115,nums0 d,fill0 d,by unfold formV; simp [c0],?_,by unfold keepD; simp [c0]⟩
  have:=formC0 d
  have e:mayD d = may0 d:=by unfold mayD; simp [c0]
  rw [e]
  exact this
 by_cases c1:d.op = 2 ∧ d.kd = 1
 ·refine .inr ⟨by unfold knownD formV; simp [c1],116,117,118,nums1 d,fill1 d,by unfold formV; simp [c1],?_,by unfold keepD; simp [c1]⟩
  have:=formC1 d
  have e:mayD d = may1 d:=by unfold mayD; simp [c1]
  rw [e]
  exact this
 by_cases c2:d.op = 3 ∧ d.kd = 1
 ·refine .inr ⟨by unfold knownD formV; simp [c2],120,121,122,nums2 d,fill2 d,by unfold formV; simp [c2],?_,by unfold keepD; simp [c2]⟩
  have:=formC2 d
  have e:mayD d = may2 d:=by unfold mayD; simp [c2]
  rw [e]
  exact this
 by_cases c3:d.op = 1 ∧ d.kd = 2
 ·refine .inr ⟨by unfold knownD formV; simp [c3],123,124,125,nums3 d,fill3 d,by unfold formV; simp [c3],?_,by unfold keepD; simp [c3]⟩
  have:=formC3 d
  have e:mayD d = may3 d:=by unfold mayD; simp [c3]
  rw [e]
  exact this
 by_cases c4:d.op = 2 ∧ d.kd = 2
 ·refine .inr ⟨by unfold knownD formV; simp [c4],126,127,128,nums4 d,fill4 d,by unfold formV; simp [c4],?_,by unfold keepD; simp [c4]⟩
  have:=formC4 d
  have e:mayD d = may4 d:=by unfold mayD; simp [c4]
  rw [e]
  exact this
 by_cases c5:d.op = 3 ∧ d.kd = 2
 ·refine .inr ⟨by unfold knownD formV; simp [c5],130,131,132,nums5 d,fill5 d,by unfold formV; simp [c5],?_,by unfold keepD; simp [c5]⟩
  have:=formC5 d
  have e:mayD d = may5 d:=by unfold mayD; simp [c5]
  rw [e]
  exact this
 exact .inl (by unfold knownD formV; simp [c0,c1,c2,c3,c4,c5])
end Go.Proofs.YtolaabllhibkdaaGreat

/- direct.Right. It makes new memory alone. -/
namespace Go.Proofs.YtolaabllhibkdaaGreat
open Go.ChangeShapes Go.WideShapes Go.ChangeAt Go.RowKit Go.Sort
set_option linter.unusedSimpArgs false
set_option linter.unusedVariables false
theorem zeroForm (w:World):(zeroValue 106).run Tryz.prog w = .ok (.agg #[.nilFunc,.nilFunc,.nilFunc]) w:=by kernel_rfl
/-- What is looked up in the forms. -/
theorem look_form {w:World} {b n:Nat} {S:Lit → Option Value} (hM:MapV w 111 b n S) (hS:IsS (fun _ => true) S) {x y:Int} (hx:(Lit.int .i64 x).wf = true) (hy:(Lit.int .i64 y).wf = true) (v:Value) (hv:(formV x y).getD (.agg #[.nilFunc,.nilFunc,.nilFunc]) = v) (c:Bool) (hc:(formV x y).isSome = c) :
  (Instr.lookup 108 (.map (some b)) (.agg #[.int .i64 x,.int .i64 y]) true).run Tryz.prog w = .ok (.tuple #[v,.bool c]) w:=by
 have h:=hM.look_ok keyedD Tryz.underlying108 (zeroForm w) (keyOfD hx hy) (keyD_is _ _)
 rw [formS_at hS hx hy] at h
 rw [← hv,← hc]
 exact h
set_option maxHeartbeats 8000000 in
set_option maxRecDepth 100000 in
theorem dright_no (d:Dr) (w:World) (hw0:(Lit.int .i64 d.op).wf = true) (hw1:(Lit.int .i64 d.kd).wf = true) (hn:formV d.op d.kd = none):Calls Tryz.prog 77 #[.agg #[.int .i64 d.op,.int .i64 d.kd,.int .i64 d.id,.int .i64 d.fr,.int .i64 d.tn,.int .i64 d.st,.int .i64 d.en,.int .i64 d.rt,.int .i64 d.rf,.int .i64 d.rn,.int .i64 d.rs,.int .i64 d.re,.int .i64 d.ro]] w fun e w' => e = .returned (.bool false) ∧ Below w.heap.size w w':=by
 have hB:Below w.heap.size w (w.alloc (.cells #[.int .i64 d.op,.int .i64 d.kd,.int .i64 d.id,.int .i64 d.fr,.int .i64 d.tn,.int .i64 d.st,.int .i64 d.en,.int .i64 d.rt,.int .i64 d.rf,.int .i64 d.rn,.int .i64 d.rs,.int .i64 d.re,.int .i64 d.ro] 37)):=by (repeat (first | exact Below.refl _ _ | refine Below.alloc ?_ (by first | omega | (simp; done) | (simp; omega)) _ | refine Below.setCell ?_ (by first | omega | (simp; done) | (simp; omega)) _ | refine Below.drew ?_))
 have hX:=Blok.new w 37 #[.int .i64 d.op,.int .i64 d.kd,.int .i64 d.id,.int .i64 d.fr,.int .i64 d.tn,.int .i64 d.st,.int .i64 d.en,.int .i64 d.rt,.int .i64 d.rf,.int .i64 d.rn,.int .i64 d.rs,.int .i64 d.re,.int .i64 d.ro]
 have hs:=hB.size
 have hfv:(formV d.op d.kd).getD (.agg #[.nilFunc,.nilFunc,.nilFunc]) = .agg #[.nilFunc,.nilFunc,.nilFunc]:=by rw [hn]; rfl
 have hfo:(formV d.op d.kd).isSome = false:=by rw [hn]; rfl
 clear hn
 go_enter Tryz.func77,Tryz.ntmps77
 go_upto_region 1 with fail
 generalize w.alloc (.cells #[.int .i64 d.op,.int .i64 d.kd,.int .i64 d.id,.int .i64 d.fr,.int .i64 d.tn,.int .i64 d.st,.int .i64 d.en,.int .i64 d.rt,.int .i64 d.rf,.int .i64 d.rn,.int .i64 d.rs,.int .i64 d.re,.int .i64 d.ro] 37) = w0 at *
 go_cut [3,4] (fun p s wx => ∃ bx,p = .pointer (some ⟨bx,0,none⟩) ∧ s = .bool false ∧ w0.heap.size ≤ bx ∧ Below w0.heap.size w0 wx ∧ Blok wx bx 106 #[.nilFunc,.nilFunc,.nilFunc])
 case first =>
  have HFOOT:=Lib.hid (fun (w':World) (hb:Below w0.heap.size w0 w') => (show w'.cell? ⟨w.heap.size,0,none⟩ = some (.int .i64 d.op) ∧ w'.cell? ⟨w.heap.size,1,none⟩ = some (.int .i64 d.kd) from ⟨(hX.below hb hX.lt).cell 0,(hX.below hb hX.lt).cell 1⟩))
  have r0:w0.cell? ⟨w.heap.size,0,none⟩ = some (.int .i64 d.op):=hX.cell 0
  have r1:w0.cell? ⟨w.heap.size,1,none⟩ = some (.int .i64 d.kd):=hX.cell 1
  have lt_x:=hX.lt
  have hC:Below w0.heap.size w0 w0:=Below.refl _ _
  clear hX hB hs
  try simp only [List.append]
  go_region_held3 (fun w' => w'.cell? ⟨w.heap.size,0,none⟩ = some (.int .i64 d.op) ∧ w'.cell? ⟨w.heap.size,1,none⟩ = some (.int .i64 d.kd))
   (first | exact HFOOT.out _ hC | exact HFOOT.out _ (by (repeat (first | exact Below.refl _ _ | exact hC | refine Below.alloc ?_ (by first | omega | (simp; done) | (simp; omega)) _ | refine Below.setCell ?_ (by first | omega | (simp; done) | (simp; omega)) _ | refine Below.drew ?_ | refine Below.trans ?_ (hC.mono (by first | omega | (simp; done) | (simp; omega)))))) | go_keep)
   (first
    | (go_at_call 100; (with_reducible refine Calls.mono (forms_any _) ?_); rintro e x1 ⟨bm,nm,S,rfl,hge,hM,hS,hbx⟩; replace hC:Below w0.heap.size w0 x1:=Below.trans (by (repeat (first | exact Below.refl _ _ | exact hC | refine Below.alloc ?_ (by first | omega | (simp; done) | (simp; omega)) _ | refine Below.setCell ?_ (by first | omega | (simp; done) | (simp; omega)) _ | refine Below.drew ?_ | refine Below.trans ?_ (hC.mono (by first | omega | (simp; done) | (simp; omega)))))) (hbx.mono (by first | exact Nat.le_refl _ | (simp; done) | (simp; omega))); have hsC:=hC.size; have hl1:=look_form hM hS hw0 hw1 _ hfv _ hfo; have hl2:=look_form (hM.alloc (.cells #[.nilFunc,.nilFunc,.nilFunc] 106)) hS hw0 hw1 _ hfv _ hfo; have hq:=Blok.new x1 106 #[.nilFunc,.nilFunc,.nilFunc]; (try (have hzz:Blok x1 w0.heap.size 106 #[.nilFunc,.nilFunc,.nilFunc]:=(by with_reducible exact Blok.below (Blok.new w0.drew 106 #[.nilFunc,.nilFunc,.nilFunc]) hbx (by simp)); have z0:x1.cell? ⟨w0.heap.size,0,none⟩ = some .nilFunc:=hzz.cell 0; have y0:=hzz.free 0; have z1:x1.cell? ⟨w0.heap.size,1,none⟩ = some .nilFunc:=hzz.cell 1; have y1:=hzz.free 1; have z2:x1.cell? ⟨w0.heap.size,2,none⟩ = some .nilFunc:=hzz.cell 2; have y2:=hzz.free 2; have ltz:=hzz.lt)); clear hM hge hbx))
  all_goals
   go_wp2
   go_meet
   first
    | exact ⟨_,rfl,rfl,hsC,hC.alloc hsC _,Blok.new _ _ _⟩
    | exact ⟨_,rfl,rfl,Nat.le_refl _,by (repeat (first | exact Below.refl _ _ | exact hC | refine Below.alloc ?_ (by first | omega | (simp; done) | (simp; omega)) _ | refine Below.setCell ?_ (by first | omega | (simp; done) | (simp; omega)) _ | refine Below.drew ?_ | refine Below.trans ?_ (hC.mono (by first | omega | (simp; done) | (simp; omega))))),by have h:=((hzz.set_ 0 (.nilFunc)).set_ 1 (.nilFunc)).set_ 2 (.nilFunc); simpa using h⟩
 case rest =>
  revert wc
  intro w1 hcut
  obtain ⟨bx,rfl,rfl,hbx,hb,hF⟩:=hcut
  clear hfv hfo
  replace hX:=hX.below hb hX.lt
  replace hB:=hB.trans (hb.mono hs)
  replace hs:=hB.size
  clear hb
  go_wp2_with fail
  try simp only [List.append]
  first | refine wp_region_text_below ?_ | refine wp_region_quiet_below (by kernel_rfl) (by kernel_rfl) ?_
  repeat (go_big_quiet_step ((fail)))
  refine wpQuiet_nil ?_
  intro _ hqw
  obtain ⟨pq,hqw⟩:=hqw
  subst hqw
  have hbq:=hB.trans ((below_regrown w1 pq.d pq.os).mono hs)
  generalize grow (redrawn w1 pq.d) pq.os = wq at *
  go_wp2
  go_ret
  exact ⟨rfl,hbq⟩
set_option maxHeartbeats 16000000 in
set_option maxRecDepth 100000 in
theorem dright_yes (d:Dr) (w:World) (hw0:(Lit.int .i64 d.op).wf = true) (hw1:(Lit.int .i64 d.kd).wf = true) (f1 f2 f3:FuncId) (ns:List Int) (y:Dr) (mb:Bool) (hn:formV d.op d.kd = some (formOf f1 f2 f3)) (hc:FormC d f1 f2 f3 ns y mb) (z:Dr) (hz:withDo y d.op d.kd = z) (qb:Bool) (hqb:decide (d = z) = qb):Calls Tryz.prog 77 #[.agg #[.int .i64 d.op,.int .i64 d.kd,.int .i64 d.id,.int .i64 d.fr,.int .i64 d.tn,.int .i64 d.st,.int .i64 d.en,.int .i64 d.rt,.int .i64 d.rf,.int .i64 d.rn,.int .i64 d.rs,.int .i64 d.re,.int .i64 d.ro]] w fun e w' => e = .returned (.bool (mb && qb)) ∧ Below w.heap.size w w':=by
 have hB:Below w.heap.size w (w.alloc (.cells #[.int .i64 d.op,.int .i64 d.kd,.int .i64 d.id,.int .i64 d.fr,.int .i64 d.tn,.int .i64 d.st,.int .i64 d.en,.int .i64 d.rt,.int .i64 d.rf,.int .i64 d.rn,.int .i64 d.rs,.int .i64 d.re,.int .i64 d.ro] 37)):=by (repeat (first | exact Below.refl _ _ | refine Below.alloc ?_ (by first | omega | (simp; done) | (simp; omega)) _ | refine Below.setCell ?_ (by first | omega | (simp; done) | (simp; omega)) _ | refine Below.drew ?_))
 have hX:=Blok.new w 37 #[.int .i64 d.op,.int .i64 d.kd,.int .i64 d.id,.int .i64 d.fr,.int .i64 d.tn,.int .i64 d.st,.int .i64 d.en,.int .i64 d.rt,.int .i64 d.rf,.int .i64 d.rn,.int .i64 d.rs,.int .i64 d.re,.int .i64 d.ro]
 have hs:=hB.size
 have hfv:(formV d.op d.kd).getD (.agg #[.nilFunc,.nilFunc,.nilFunc]) = .agg #[.func (.func f1) #[] #[],.func (.func f2) #[] #[],.func (.func f3) #[] #[]]:=by rw [hn]; rfl
 have hfo:(formV d.op d.kd).isSome = true:=by rw [hn]; rfl
 have HC:=Lib.hid hc
 have HZ:=Lib.hid hz
 clear hn hc hz
 go_enter Tryz.func77,Tryz.ntmps77
 go_upto_region 1 with fail
 generalize w.alloc (.cells #[.int .i64 d.op,.int .i64 d.kd,.int .i64 d.id,.int .i64 d.fr,.int .i64 d.tn,.int .i64 d.st,.int .i64 d.en,.int .i64 d.rt,.int .i64 d.rf,.int .i64 d.rn,.int .i64 d.rs,.int .i64 d.re,.int .i64 d.ro] 37) = w0 at *
 go_cut [3,4] (fun p s wx => ∃ bx,p = .pointer (some ⟨bx,0,none⟩) ∧ s = .bool true ∧ w0.heap.size ≤ bx ∧ Below w0.heap.size w0 wx ∧ Blok wx bx 106 #[.func (.func f1) #[] #[],.func (.func f2) #[] #[],.func (.func f3) #[] #[]])
 case first =>
  have HFOOT:=Lib.hid (fun (w':World) (hb:Below w0.heap.size w0 w') => (show w'.cell? ⟨w.heap.size,0,none⟩ = some (.int .i64 d.op) ∧ w'.cell? ⟨w.heap.size,1,none⟩ = some (.int .i64 d.kd) from ⟨(hX.below hb hX.lt).cell 0,(hX.below hb hX.lt).cell 1⟩))
  have r0:w0.cell? ⟨w.heap.size,0,none⟩ = some (.int .i64 d.op):=hX.cell 0
  have r1:w0.cell? ⟨w.heap.size,1,none⟩ = some (.int .i64 d.kd):=hX.cell 1
  have lt_x:=hX.lt
  have hC:Below w0.heap.size w0 w0:=Below.refl _ _
  clear hX hB hs
  try simp only [List.append]
  go_region_held3 (fun w' => w'.cell? ⟨w.heap.size,0,none⟩ = some (.int .i64 d.op) ∧ w'.cell? ⟨w.heap.size,1,none⟩ = some (.int .i64 d.kd))
   (first | exact HFOOT.out _ hC | exact HFOOT.out _ (by (repeat (first | exact Below.refl _ _ | exact hC | refine Below.alloc ?_ (by first | omega | (simp; done) | (simp; omega)) _ | refine Below.setCell ?_ (by first | omega | (simp; done) | (simp; omega)) _ | refine Below.drew ?_ | refine Below.trans ?_ (hC.mono (by first | omega | (simp; done) | (simp; omega)))))) | go_keep)
   (first
    | (go_at_call 100; (with_reducible refine Calls.mono (forms_any _) ?_); rintro e x1 ⟨bm,nm,S,rfl,hge,hM,hS,hbx⟩; replace hC:Below w0.heap.size w0 x1:=Below.trans (by (repeat (first | exact Below.refl _ _ | exact hC | refine Below.alloc ?_ (by first | omega | (simp; done) | (simp; omega)) _ | refine Below.setCell ?_ (by first | omega | (simp; done) | (simp; omega)) _ | refine Below.drew ?_ | refine Below.trans ?_ (hC.mono (by first | omega | (simp; done) | (simp; omega)))))) (hbx.mono (by first | exact Nat.le_refl _ | (simp; done) | (simp; omega))); have hsC:=hC.size; have hl1:=look_form hM hS hw0 hw1 _ hfv _ hfo; have hl2:=look_form (hM.alloc (.cells #[.nilFunc,.nilFunc,.nilFunc] 106)) hS hw0 hw1 _ hfv _ hfo; have hq:=Blok.new x1 106 #[.nilFunc,.nilFunc,.nilFunc]; (try (have hzz:Blok x1 w0.heap.size 106 #[.nilFunc,.nilFunc,.nilFunc]:=(by with_reducible exact Blok.below (Blok.new w0.drew 106 #[.nilFunc,.nilFunc,.nilFunc]) hbx (by simp)); have z0:x1.cell? ⟨w0.heap.size,0,none⟩ = some .nilFunc:=hzz.cell 0; have y0:=hzz.free 0; have z1:x1.cell? ⟨w0.heap.size,1,none⟩ = some .nilFunc:=hzz.cell 1; have y1:=hzz.free 1; have z2:x1.cell? ⟨w0.heap.size,2,none⟩ = some .nilFunc:=hzz.cell 2; have y2:=hzz.free 2; have ltz:=hzz.lt)); clear hM hge hbx))
  all_goals
   go_wp2
   go_meet
   first
    | exact ⟨_,rfl,rfl,hsC,hC.alloc hsC _,Blok.new _ _ _⟩
    | exact ⟨_,rfl,rfl,Nat.le_refl _,by (repeat (first | exact Below.refl _ _ | exact hC | refine Below.alloc ?_ (by first | omega | (simp; done) | (simp; omega)) _ | refine Below.setCell ?_ (by first | omega | (simp; done) | (simp; omega)) _ | refine Below.drew ?_ | refine Below.trans ?_ (hC.mono (by first | omega | (simp; done) | (simp; omega))))),by have h:=((hzz.set_ 0 (.func (.func f1) #[] #[])).set_ 1 (.func (.func f2) #[] #[])).set_ 2 (.func (.func f3) #[] #[]); simpa using h⟩
 case rest =>
  revert wc
  intro w1 hcut
  obtain ⟨bx,rfl,rfl,hbx,hb,hF⟩:=hcut
  clear hfv hfo
  replace hX:=hX.below hb hX.lt
  replace hB:=hB.trans (hb.mono hs)
  replace hs:=hB.size
  clear hb
  have hcf1:=HC.out.e1
  have hcf2:=HC.out.e2
  have hcf3:=HC.out.e3
  unfold EnterF at hcf1 hcf2 hcf3
  have HNU:=Lib.hid HC.out.nums
  have HFI:=Lib.hid HC.out.fill
  have HMA:=Lib.hid HC.out.may
  have HE2:=Lib.hid HC.out.e2
  have heq:=eqlDr d z
  rw [hqb] at heq
  have HMD:Hid (∀ (A:Option Addr) (c:Nat) (w':World),Sl w' w'.heap.size 1 A ns.length c (ns.map (Value.int .i64)) → Calls Tryz.prog 101 #[.int .i64 d.op,.int .i64 d.kd,.agg #[.func (.func f1) #[] #[],.func (.func f2) #[] #[],.func (.func f3) #[] #[]],.slice A ns.length c] w' fun e w'' => e = .returned (.agg #[.int .i64 z.op,.int .i64 z.kd,.int .i64 z.id,.int .i64 z.fr,.int .i64 z.tn,.int .i64 z.st,.int .i64 z.en,.int .i64 z.rt,.int .i64 z.rf,.int .i64 z.rn,.int .i64 z.rs,.int .i64 z.re,.int .i64 z.ro]) ∧ Below w'.heap.size w' w''):=fun A c w' h => by
   have h1:=made_any f1 f2 f3 A ns.length c ns y d.op d.kd HE2.out (fun w => HFI.out A c w) w' h
   rw [HZ.out] at h1
   exact h1
  have HFOOT:=Lib.hid (fun (w':World) (hb:Below w1.heap.size w1 w') => (show w'.cell? ⟨w.heap.size,0,none⟩ = some (.int .i64 d.op) ∧ w'.cell? ⟨w.heap.size,1,none⟩ = some (.int .i64 d.kd) ∧ w'.cell? ⟨w.heap.size,2,none⟩ = some (.int .i64 d.id) ∧ w'.cell? ⟨w.heap.size,3,none⟩ = some (.int .i64 d.fr) ∧ w'.cell? ⟨w.heap.size,4,none⟩ = some (.int .i64 d.tn) ∧ w'.cell? ⟨w.heap.size,5,none⟩ = some (.int .i64 d.st) ∧ w'.cell? ⟨w.heap.size,6,none⟩ = some (.int .i64 d.en) ∧ w'.cell? ⟨w.heap.size,7,none⟩ = some (.int .i64 d.rt) ∧ w'.cell? ⟨w.heap.size,8,none⟩ = some (.int .i64 d.rf) ∧ w'.cell? ⟨w.heap.size,9,none⟩ = some (.int .i64 d.rn) ∧ w'.cell? ⟨w.heap.size,10,none⟩ = some (.int .i64 d.rs) ∧ w'.cell? ⟨w.heap.size,11,none⟩ = some (.int .i64 d.re) ∧ w'.cell? ⟨w.heap.size,12,none⟩ = some (.int .i64 d.ro) ∧ w'.cell? ⟨bx,0,none⟩ = some (.func (.func f1) #[] #[]) ∧ w'.cell? ⟨bx,1,none⟩ = some (.func (.func f2) #[] #[]) ∧ w'.cell? ⟨bx,2,none⟩ = some (.func (.func f3) #[] #[]) from ⟨(hX.below hb hX.lt).cell 0,(hX.below hb hX.lt).cell 1,(hX.below hb hX.lt).cell 2,(hX.below hb hX.lt).cell 3,(hX.below hb hX.lt).cell 4,(hX.below hb hX.lt).cell 5,(hX.below hb hX.lt).cell 6,(hX.below hb hX.lt).cell 7,(hX.below hb hX.lt).cell 8,(hX.below hb hX.lt).cell 9,(hX.below hb hX.lt).cell 10,(hX.below hb hX.lt).cell 11,(hX.below hb hX.lt).cell 12,(hF.below hb hF.lt).cell 0,(hF.below hb hF.lt).cell 1,(hF.below hb hF.lt).cell 2⟩))
  have hFF:=HFOOT.out w1 (Below.refl _ _)
  obtain ⟨r0,r1,r2,r3,r4,r5,r6,r7,r8,r9,r10,r11,r12,g0,g1,g2⟩:=hFF
  have lt_x:=hX.lt
  have lt_f:=hF.lt
  have hC:Below w1.heap.size w1 w1:=Below.refl _ _
  have HBB:=Lib.hid hB
  clear hX hF hqb hB HC
  go_upto_region 2 with fail
  cases mb
  case false =>
   have HM2:=HMA
   clear HFOOT
   have q_r0:=fun d os => cell_regrown r0 d os
   have q_r1:=fun d os => cell_regrown r1 d os
   have q_r2:=fun d os => cell_regrown r2 d os
   have q_r3:=fun d os => cell_regrown r3 d os
   have q_r4:=fun d os => cell_regrown r4 d os
   have q_r5:=fun d os => cell_regrown r5 d os
   have q_r6:=fun d os => cell_regrown r6 d os
   have q_r7:=fun d os => cell_regrown r7 d os
   have q_r8:=fun d os => cell_regrown r8 d os
   have q_r9:=fun d os => cell_regrown r9 d os
   have q_r10:=fun d os => cell_regrown r10 d os
   have q_r11:=fun d os => cell_regrown r11 d os
   have q_r12:=fun d os => cell_regrown r12 d os
   have q_g0:=fun d os => cell_regrown g0 d os
   have q_g1:=fun d os => cell_regrown g1 d os
   have q_g2:=fun d os => cell_regrown g2 d os
   try simp only [List.append]
   first | refine wp_region_text_below ?_ | refine wp_region_quiet_below (by kernel_rfl) (by kernel_rfl) ?_
   repeat (go_big_quiet_step (((with_reducible exact Calls.regrown_of (HM2.out _)))))
   refine wpQuiet_nil ?_
   intro _ hqw
   obtain ⟨pq,hqw⟩:=hqw
   subst hqw
   clear q_r0 q_r1 q_r2 q_r3 q_r4 q_r5 q_r6 q_r7 q_r8 q_r9 q_r10 q_r11 q_r12 q_g0 q_g1 q_g2
   have hbq:=HBB.out.trans ((below_regrown w1 pq.d pq.os).mono hs)
   generalize grow (redrawn w1 pq.d) pq.os = wq at *
   go_wp2
   go_ret
   exact ⟨rfl,hbq⟩
  case true =>
   try simp only [List.append]
   go_region_held3 (fun w' => w'.cell? ⟨w.heap.size,0,none⟩ = some (.int .i64 d.op) ∧ w'.cell? ⟨w.heap.size,1,none⟩ = some (.int .i64 d.kd) ∧ w'.cell? ⟨w.heap.size,2,none⟩ = some (.int .i64 d.id) ∧ w'.cell? ⟨w.heap.size,3,none⟩ = some (.int .i64 d.fr) ∧ w'.cell? ⟨w.heap.size,4,none⟩ = some (.int .i64 d.tn) ∧ w'.cell? ⟨w.heap.size,5,none⟩ = some (.int .i64 d.st) ∧ w'.cell? ⟨w.heap.size,6,none⟩ = some (.int .i64 d.en) ∧ w'.cell? ⟨w.heap.size,7,none⟩ = some (.int .i64 d.rt) ∧ w'.cell? ⟨w.heap.size,8,none⟩ = some (.int .i64 d.rf) ∧ w'.cell? ⟨w.heap.size,9,none⟩ = some (.int .i64 d.rn) ∧ w'.cell? ⟨w.heap.size,10,none⟩ = some (.int .i64 d.rs) ∧ w'.cell? ⟨w.heap.size,11,none⟩ = some (.int .i64 d.re) ∧ w'.cell? ⟨w.heap.size,12,none⟩ = some (.int .i64 d.ro) ∧ w'.cell? ⟨bx,0,none⟩ = some (.func (.func f1) #[] #[]) ∧ w'.cell? ⟨bx,1,none⟩ = some (.func (.func f2) #[] #[]) ∧ w'.cell? ⟨bx,2,none⟩ = some (.func (.func f3) #[] #[]))
    (first | exact HFOOT.out _ hC | exact HFOOT.out _ (by (repeat (first | exact Below.refl _ _ | exact hC | refine Below.alloc ?_ (by first | omega | (simp; done) | (simp; omega)) _ | refine Below.setCell ?_ (by first | omega | (simp; done) | (simp; omega)) _ | refine Below.drew ?_ | refine Below.trans ?_ (hC.mono (by first | omega | (simp; done) | (simp; omega)))))) | go_keep)
    (first
     | ((with_reducible refine Calls.mono (HMA.out _) ?_); rintro e wn ⟨rfl,hbn⟩; replace hC:Below w1.heap.size w1 wn:=Below.trans (by (repeat (first | exact Below.refl _ _ | exact hC | refine Below.alloc ?_ (by first | omega | (simp; done) | (simp; omega)) _ | refine Below.setCell ?_ (by first | omega | (simp; done) | (simp; omega)) _ | refine Below.drew ?_ | refine Below.trans ?_ (hC.mono (by first | omega | (simp; done) | (simp; omega)))))) (hbn.mono (by first | exact hC.size | (have:=hC.size; simp at *; omega))); clear hbn)
     | ((with_reducible refine Calls.mono (HNU.out _) ?_); rintro e wn ⟨v,rfl,hv,hbn⟩; obtain ⟨Av,cv,rfl⟩:=slice_of_own hv; replace hC:Below w1.heap.size w1 wn:=Below.trans (by (repeat (first | exact Below.refl _ _ | exact hC | refine Below.alloc ?_ (by first | omega | (simp; done) | (simp; omega)) _ | refine Below.setCell ?_ (by first | omega | (simp; done) | (simp; omega)) _ | refine Below.drew ?_ | refine Below.trans ?_ (hC.mono (by first | omega | (simp; done) | (simp; omega)))))) (hbn.mono (by first | exact hC.size | (have:=hC.size; simp at *; omega))); clear hbn)
     | (go_at_call 101; (with_reducible refine Calls.mono (HMD.out Av cv _ (Sl.of_own hv)) ?_); rintro e wn ⟨rfl,hbn⟩; replace hC:Below w1.heap.size w1 wn:=Below.trans (by (repeat (first | exact Below.refl _ _ | exact hC | refine Below.alloc ?_ (by first | omega | (simp; done) | (simp; omega)) _ | refine Below.setCell ?_ (by first | omega | (simp; done) | (simp; omega)) _ | refine Below.drew ?_ | refine Below.trans ?_ (hC.mono (by first | omega | (simp; done) | (simp; omega)))))) (hbn.mono (by first | exact hC.size | (have:=hC.size; simp at *; omega))); clear hbn))
   all_goals
    go_wp2
    go_ret
    exact ⟨rfl,HBB.out.trans (hC.mono hs)⟩
theorem dright_any (d:Dr) (w:World) (hw0:(Lit.int .i64 d.op).wf = true) (hw1:(Lit.int .i64 d.kd).wf = true) (b:Bool) (hb:rightD d = b):Calls Tryz.prog 77 #[.agg #[.int .i64 d.op,.int .i64 d.kd,.int .i64 d.id,.int .i64 d.fr,.int .i64 d.tn,.int .i64 d.st,.int .i64 d.en,.int .i64 d.rt,.int .i64 d.rf,.int .i64 d.rn,.int .i64 d.rs,.int .i64 d.re,.int .i64 d.ro]] w fun e w' => e = .returned (.bool b) ∧ Below w.heap.size w w':=by
 subst hb
 rcases form_cases d with ⟨h1,h2⟩ | ⟨h1,f1,f2,f3,ns,y,h2,h3,h4⟩
 ·unfold rightD
  rw [h2]
  exact dright_no d w hw0 hw1 h1
 ·unfold rightD
  rw [h1,h4]
  exact dright_yes d w hw0 hw1 f1 f2 f3 ns y _ h2 h3 _ rfl _ rfl
end Go.Proofs.YtolaabllhibkdaaGreat
