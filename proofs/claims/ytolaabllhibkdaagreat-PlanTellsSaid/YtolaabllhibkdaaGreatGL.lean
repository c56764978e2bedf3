/- Several texts of mine in one: Small08a, Small08. No condition. -/
import Derived.Test.YtolaabllhibkdaaGreatGT
import Derived.Test.YtolaabllhibkdaaGreatPlan6
import Derived.Test.YtolaabllhibkdaaGreatInts
import Derived.Test.YtolaabllhibkdaaGreatGC
import Derived.Test.YtolaabllhibkdaaGreatGE
import Derived.Deep.DeepMust

/- Layer 8's small case comes out right: its parts. No condition. -/
namespace Go.Proofs.YtolaabllhibkdaaGreat
open Go.ChangeShapes Go.WideShapes Go.ChangeAt Go.RowKit Go.Sort
set_option linter.unusedSimpArgs false
set_option linter.unusedVariables false
theorem lcontact_any (id en st:Int) (w:World) (hw:IntKind.i64.wrap (en - 5) = st):Calls Tryz.prog 33 #[.int .i64 id,.int .i64 en] w fun e w' => e = .returned (.agg #[.int .i64 1,.int .i64 1,.int .i64 id,.int .i64 1,.int .i64 2,.int .i64 st,.int .i64 en,.int .i64 3,.int .i64 0,.int .i64 0,.int .i64 0,.int .i64 0,.int .i64 0]) ∧ Below w.heap.size w w':=by
 have hX:=Blok.new w 37 #[.int .i64 1,.int .i64 1,.int .i64 id,.int .i64 1,.int .i64 2,.int .i64 st,.int .i64 en,.int .i64 3,.int .i64 0,.int .i64 0,.int .i64 0,.int .i64 0,.int .i64 0]
 have hB:Below w.heap.size w (w.alloc (.cells #[.int .i64 1,.int .i64 1,.int .i64 id,.int .i64 1,.int .i64 2,.int .i64 st,.int .i64 en,.int .i64 3,.int .i64 0,.int .i64 0,.int .i64 0,.int .i64 0,.int .i64 0] 37)):=by (repeat (first | exact Below.refl _ _ | refine Below.alloc ?_ (by first | omega | (simp; done) | (simp; omega)) _ | refine Below.setCell ?_ (by first | omega | (simp; done) | (simp; omega)) _ | refine Below.drew ?_))
 go_enter Tryz.func33,Tryz.ntmps33
 go_wp2_with fail
 generalize w.alloc (.cells #[.int .i64 1,.int .i64 1,.int .i64 id,.int .i64 1,.int .i64 2,.int .i64 st,.int .i64 en,.int .i64 3,.int .i64 0,.int .i64 0,.int .i64 0,.int .i64 0,.int .i64 0] 37) = w1 at *
 have r0:w1.cell? ⟨w.heap.size,0,none⟩ = some (.int .i64 1):=hX.cell 0
 have r1:w1.cell? ⟨w.heap.size,1,none⟩ = some (.int .i64 1):=hX.cell 1
 have r2:w1.cell? ⟨w.heap.size,2,none⟩ = some (.int .i64 id):=hX.cell 2
 have r3:w1.cell? ⟨w.heap.size,3,none⟩ = some (.int .i64 1):=hX.cell 3
 have r4:w1.cell? ⟨w.heap.size,4,none⟩ = some (.int .i64 2):=hX.cell 4
 have r5:w1.cell? ⟨w.heap.size,5,none⟩ = some (.int .i64 st):=hX.cell 5
 have r6:w1.cell? ⟨w.heap.size,6,none⟩ = some (.int .i64 en):=hX.cell 6
 have r7:w1.cell? ⟨w.heap.size,7,none⟩ = some (.int .i64 3):=hX.cell 7
 have r8:w1.cell? ⟨w.heap.size,8,none⟩ = some (.int .i64 0):=hX.cell 8
 have r9:w1.cell? ⟨w.heap.size,9,none⟩ = some (.int .i64 0):=hX.cell 9
 have r10:w1.cell? ⟨w.heap.size,10,none⟩ = some (.int .i64 0):=hX.cell 10
 have r11:w1.cell? ⟨w.heap.size,11,none⟩ = some (.int .i64 0):=hX.cell 11
 have r12:w1.cell? ⟨w.heap.size,12,none⟩ = some (.int .i64 0):=hX.cell 12
 have lt_x:=hX.lt
 refine bodyPost_ret (v:=.agg #[.int .i64 1,.int .i64 1,.int .i64 id,.int .i64 1,.int .i64 2,.int .i64 st,.int .i64 en,.int .i64 3,.int .i64 0,.int .i64 0,.int .i64 0,.int .i64 0,.int .i64 0]) (by simp [results,Tryz.results33,go_sem,r0,r1,r2,r3,r4,r5,r6,r7,r8,r9,r10,r11,r12,lt_x]) rfl ?_
 exact ⟨rfl,hB⟩
theorem lspan_any (en:Int) (w:World):Calls Tryz.prog 32 #[.int .i64 en] w fun e w' => e = .returned (.agg #[.int .i64 1,.int .i64 2,.int .i64 0,.int .i64 0,.int .i64 0,.int .i64 0,.int .i64 0,.int .i64 0,.int .i64 1,.int .i64 2,.int .i64 0,.int .i64 en,.int .i64 4]) ∧ Below w.heap.size w w':=by
 have hX:=Blok.new w 37 #[.int .i64 1,.int .i64 2,.int .i64 0,.int .i64 0,.int .i64 0,.int .i64 0,.int .i64 0,.int .i64 0,.int .i64 1,.int .i64 2,.int .i64 0,.int .i64 en,.int .i64 4]
 have hB:Below w.heap.size w (w.alloc (.cells #[.int .i64 1,.int .i64 2,.int .i64 0,.int .i64 0,.int .i64 0,.int .i64 0,.int .i64 0,.int .i64 0,.int .i64 1,.int .i64 2,.int .i64 0,.int .i64 en,.int .i64 4] 37)):=by (repeat (first | exact Below.refl _ _ | refine Below.alloc ?_ (by first | omega | (simp; done) | (simp; omega)) _ | refine Below.setCell ?_ (by first | omega | (simp; done) | (simp; omega)) _ | refine Below.drew ?_))
 go_enter Tryz.func32,Tryz.ntmps32
 go_wp2_with fail
 generalize w.alloc (.cells #[.int .i64 1,.int .i64 2,.int .i64 0,.int .i64 0,.int .i64 0,.int .i64 0,.int .i64 0,.int .i64 0,.int .i64 1,.int .i64 2,.int .i64 0,.int .i64 en,.int .i64 4] 37) = w1 at *
 have r0:w1.cell? ⟨w.heap.size,0,none⟩ = some (.int .i64 1):=hX.cell 0
 have r1:w1.cell? ⟨w.heap.size,1,none⟩ = some (.int .i64 2):=hX.cell 1
 have r2:w1.cell? ⟨w.heap.size,2,none⟩ = some (.int .i64 0):=hX.cell 2
 have r3:w1.cell? ⟨w.heap.size,3,none⟩ = some (.int .i64 0):=hX.cell 3
 have r4:w1.cell? ⟨w.heap.size,4,none⟩ = some (.int .i64 0):=hX.cell 4
 have r5:w1.cell? ⟨w.heap.size,5,none⟩ = some (.int .i64 0):=hX.cell 5
 have r6:w1.cell? ⟨w.heap.size,6,none⟩ = some (.int .i64 0):=hX.cell 6
 have r7:w1.cell? ⟨w.heap.size,7,none⟩ = some (.int .i64 0):=hX.cell 7
 have r8:w1.cell? ⟨w.heap.size,8,none⟩ = some (.int .i64 1):=hX.cell 8
 have r9:w1.cell? ⟨w.heap.size,9,none⟩ = some (.int .i64 2):=hX.cell 9
 have r10:w1.cell? ⟨w.heap.size,10,none⟩ = some (.int .i64 0):=hX.cell 10
 have r11:w1.cell? ⟨w.heap.size,11,none⟩ = some (.int .i64 en):=hX.cell 11
 have r12:w1.cell? ⟨w.heap.size,12,none⟩ = some (.int .i64 4):=hX.cell 12
 have lt_x:=hX.lt
 refine bodyPost_ret (v:=.agg #[.int .i64 1,.int .i64 2,.int .i64 0,.int .i64 0,.int .i64 0,.int .i64 0,.int .i64 0,.int .i64 0,.int .i64 1,.int .i64 2,.int .i64 0,.int .i64 en,.int .i64 4]) (by simp [results,Tryz.results32,go_sem,r0,r1,r2,r3,r4,r5,r6,r7,r8,r9,r10,r11,r12,lt_x]) rfl ?_
 exact ⟨rfl,hB⟩
def s08_0:Pl:=⟨[],[],0,0⟩
def s08_d:List Dr:=[⟨1,2,0,0,0,0,0,0,1,2,0,90,4⟩,⟨1,1,7,1,2,15,20,3,0,0,0,0,0⟩,⟨1,1,8,1,2,25,30,3,0,0,0,0,0⟩]
def s08_p:Pl:=⟨[⟨7,1,2,15,20,3⟩,⟨8,1,2,25,30,3⟩],[⟨1,2,0,90,4⟩],0,3⟩
def s08_q:Pl:=⟨[⟨8,1,2,25,30,3⟩],[⟨1,2,0,90,4⟩],20,4⟩
def s08_r:Pl:=⟨[⟨8,1,2,25,30,9⟩],[⟨1,2,0,90,4⟩],20,5⟩
def s08_e:List Dr:=[⟨1,1,9,1,2,35,40,3,0,0,0,0,0⟩,⟨1,1,8,1,2,45,50,3,0,0,0,0,0⟩]
def s08_h:Dr:=⟨3,1,8,0,0,0,0,9,0,0,0,0,0⟩
def s08_z:Dr:=⟨0,0,0,0,0,0,0,0,0,0,0,0,0⟩
theorem Pl.ext_ {a b:Pl} (h0:a.cs = b.cs) (h1:a.rs = b.rs) (h2:a.clk = b.clk) (h3:a.ver = b.ver):a = b:=by cases a; cases b; simp_all
theorem s08_q1:allQ s08_0 s08_d = (0,3):=by decide +kernel
theorem s08_p1:allP s08_0 s08_d = s08_p:=Pl.ext_ (by decide +kernel) (by decide +kernel) (by decide +kernel) (by decide +kernel)
theorem s08_q2:advQ s08_p 20 = 0:=by decide +kernel
theorem s08_p2:advP s08_p 20 = s08_q:=Pl.ext_ (by decide +kernel) (by decide +kernel) (by decide +kernel) (by decide +kernel)
theorem s08_g2:advG s08_p 20 = [7]:=by decide +kernel
theorem s08_q3:stepQ s08_q ⟨1,1,9,1,2,15,20,3,0,0,0,0,0⟩ = 7:=by decide +kernel
theorem s08_q4:advQ s08_q 19 = 7:=by decide +kernel
theorem s08_q5:stepQ s08_q s08_h = 0:=by decide +kernel
theorem s08_p5:stepP s08_q s08_h = s08_r:=Pl.ext_ (by decide +kernel) (by decide +kernel) (by decide +kernel) (by decide +kernel)
theorem s08_q6:allQ s08_q s08_e = (4,1):=by decide +kernel
theorem s08_p6:allP s08_q s08_e = s08_q:=Pl.ext_ (by decide +kernel) (by decide +kernel) (by decide +kernel) (by decide +kernel)
theorem s08_q7:stepQ s08_q s08_z = 1:=by decide +kernel
theorem s08_r0:s08_0.right = true:=by decide +kernel
theorem s08_rq:s08_q.right = true:=by decide +kernel
theorem s08_s:samePB s08_q s08_q = true:=by decide +kernel
theorem allRet_is {p:Pl} {ds:List Dr} {w w':World} {e:Ending} (P:Pl) (q:Int) (k:Nat) (kk clk ver:Int) (n1 n:Nat) (h:AllRet p ds w e w') (hq:allQ p ds = (q,k)) (hk:(k:Int) = kk) (hp:allP p ds = P) (hn1:P.cs.length = n1) (hn:P.rs.length = n) (hc:P.clk = clk) (hv:P.ver = ver) :
  ∃ A2 c2 A3 c3,e = .returned (.tuple #[.agg #[.slice A2 n1 c2,.slice A3 n c3,.int .i64 clk,.int .i64 ver],.int .i64 kk,.int .i64 q]) ∧ PlAt w' A2 n1 c2 A3 n c3 P ∧ Below w.heap.size w w':=by
 obtain ⟨A2,n2,c2,A3,n3,c3,rfl,ho,hb⟩:=h
 rw [hp] at ho
 have e1:n2 = n1:=ho.l1.symm.trans hn1
 have e2:n3 = n:=ho.l.symm.trans hn
 subst e1 e2
 exact ⟨A2,c2,A3,c3,by rw [hp,hq,hc,hv,← hk],ho.at_,hb⟩
theorem applyRet_is {p:Pl} {d:Dr} {w w':World} {e:Ending} (P:Pl) (q clk ver:Int) (n1 n:Nat) (h:ApplyRet p d w e w') (hq:stepQ p d = q) (hp:stepP p d = P) (hn1:P.cs.length = n1) (hn:P.rs.length = n) (hc:P.clk = clk) (hv:P.ver = ver) :
  ∃ A2 c2 A3 c3,e = .returned (.tuple #[.agg #[.slice A2 n1 c2,.slice A3 n c3,.int .i64 clk,.int .i64 ver],.int .i64 q]) ∧ PlAt w' A2 n1 c2 A3 n c3 P ∧ Below w.heap.size w w':=by
 obtain ⟨A2,n2,c2,A3,n3,c3,rfl,ho,hb⟩:=h
 rw [hp] at ho
 have e1:n2 = n1:=ho.l1.symm.trans hn1
 have e2:n3 = n:=ho.l.symm.trans hn
 subst e1 e2
 exact ⟨A2,c2,A3,c3,by rw [hp,hq,hc,hv],ho.at_,hb⟩
theorem advRet_is {p:Pl} {now:Int} {w w':World} {e:Ending} (P:Pl) (G:List Int) (q clk ver:Int) (n1 n g:Nat) (h:AdvRet p now w e w') (hq:advQ p now = q) (hp:advP p now = P) (hg:advG p now = G) (hgl:G.length = g) (hn1:P.cs.length = n1) (hn:P.rs.length = n) (hc:P.clk = clk) (hv:P.ver = ver) :
  ∃ A2 c2 A3 c3 A4 c4,e = .returned (.tuple #[.agg #[.slice A2 n1 c2,.slice A3 n c3,.int .i64 clk,.int .i64 ver],.slice A4 g c4,.int .i64 q]) ∧ PlAt w' A2 n1 c2 A3 n c3 P ∧ Sl w' w'.heap.size 1 A4 g c4 (G.map (Value.int .i64)) ∧ Below w.heap.size w w':=by
 obtain ⟨A2,n2,c2,A3,n3,c3,A4,n4,c4,rfl,ho,hl4,hs4,hb⟩:=h
 rw [hp] at ho
 rw [hg] at hl4 hs4
 have e1:n2 = n1:=ho.l1.symm.trans hn1
 have e2:n3 = n:=ho.l.symm.trans hn
 have e3:n4 = g:=hl4.symm.trans hgl
 subst e1 e2 e3
 exact ⟨A2,c2,A3,c3,A4,c4,by rw [hp,hq,hc,hv],ho.at_,hs4,hb⟩
theorem ints_refl (A A':Option Addr) (n c c':Nat) (d:List Int) (w:World) (hd:d.length = n) (hn:n ≤ 1000000) (h:Sl w w.heap.size 1 A n c (d.map (Value.int .i64))) (h':Sl w w.heap.size 1 A' n c' (d.map (Value.int .i64))) :
  Calls Tryz.prog 27 #[.slice A n c,.slice A' n c'] w fun e w' => e = .returned (.bool true) ∧ Below w.heap.size w w':=by
 have:=ints_any A A' n c n c' d d w hd hd hn hn h h'
 simpa using this
theorem i7_len:([7]:List Int).length = 1:=rfl
theorem plist_3 (A1:Option Addr) (c1:Nat) (A:Option Addr) (c:Nat) (w:World) (h:PlAt w A1 2 c1 A 1 c s08_p):Calls Tryz.prog 20 #[.agg #[.slice A1 2 c1,.slice A 1 c,.int .i64 0,.int .i64 3]] w fun e w' => ∃ A2 c2,e = .returned (.slice A2 3 c2) ∧ Below w.heap.size w w':=by
 refine (plist_any A1 2 c1 A 1 c s08_p w h).mono ?_
 rintro e w' ⟨v,rfl,hv,hb⟩
 obtain ⟨A2,c2,rfl⟩:=slice_of_own hv
 exact ⟨A2,c2,rfl,hb⟩
theorem psame_q (A1:Option Addr) (c1:Nat) (A:Option Addr) (c:Nat) (B1:Option Addr) (k1:Nat) (B:Option Addr) (k:Nat) (w:World) (h:PlAt w A1 1 c1 A 1 c s08_q) (h':PlAt w B1 1 k1 B 1 k s08_q):Calls Tryz.prog 14 #[.agg #[.slice A1 1 c1,.slice A 1 c,.int .i64 20,.int .i64 4],.agg #[.slice B1 1 k1,.slice B 1 k,.int .i64 20,.int .i64 4]] w fun e w' => e = .returned (.bool true) ∧ Below w.heap.size w w':=
 psame_any A1 1 c1 A 1 c s08_q B1 1 k1 B 1 k s08_q w h h' true s08_s
theorem pright_q (A1:Option Addr) (c1:Nat) (A:Option Addr) (c:Nat) (w:World) (h:PlAt w A1 1 c1 A 1 c s08_q):Calls Tryz.prog 12 #[.agg #[.slice A1 1 c1,.slice A 1 c,.int .i64 20,.int .i64 4]] w fun e w' => e = .returned (.bool true) ∧ Below w.heap.size w w':=
 pright_any A1 1 c1 s08_q.cs A 1 c s08_q.rs 20 4 w h.l1 (by omega) h.l (by omega) h.s1 h.s true (by decide +kernel)
theorem pcopy_q (A1:Option Addr) (c1:Nat) (A:Option Addr) (c:Nat) (w:World) (h:PlAt w A1 1 c1 A 1 c s08_q):Calls Tryz.prog 16 #[.agg #[.slice A1 1 c1,.slice A 1 c,.int .i64 20,.int .i64 4]] w fun e w' => ∃ A2 c2 A3 c3,e = .returned (.agg #[.slice A2 1 c2,.slice A3 1 c3,.int .i64 20,.int .i64 4]) ∧ PlAt w' A2 1 c2 A3 1 c3 s08_q ∧ Below w.heap.size w w':=by
 refine (pcopy_any A1 1 c1 A 1 c s08_q w h).mono ?_
 rintro e w' ⟨A2,c2,A3,c3,rfl,ho,hb⟩
 exact ⟨A2,c2,A3,c3,rfl,ho.at_,hb⟩
section
variable {P:Program} {ops:Array Oper}
theorem wpOp_run {Q:Exit → Act → World → Prop} {i:Nat} {o:Oper} {K:Act → World → Prop} {a:Act} {w w':World} {v:Value} (ho:ops[i]? = some o) (hg:o.guard = none) (hr:(execOp a.eval o).run P w = .ok (.value v) w') (hK:K (a.put o.dst v) w'):wpOp P ops Q i K a w:=by
 refine wpOp_of ho ?_
 rw [if_pos (by simp [Region.wanted,hg])]
 unfold Oper.wp
 rw [hr]
 exact hK
end
end Go.Proofs.YtolaabllhibkdaaGreat

/- Layer 8's small case comes out right. No condition. -/
namespace Go.Proofs.YtolaabllhibkdaaGreat
open Go.ChangeShapes Go.WideShapes Go.ChangeAt Go.RowKit Go.Sort
set_option linter.unusedSimpArgs false
set_option linter.unusedVariables false
theorem s08_ew:∀ j,j < 2 → (Lit.int .i64 (gDr s08_e j).op).wf = true ∧ (Lit.int .i64 (gDr s08_e j).kd).wf = true:=by decide +kernel
theorem s08_dw:∀ j,j < 3 → (Lit.int .i64 (gDr s08_d j).op).wf = true ∧ (Lit.int .i64 (gDr s08_d j).kd).wf = true:=by decide +kernel
set_option maxHeartbeats 16000000 in
set_option maxRecDepth 100000 in
theorem small08_any (w:World):Calls Tryz.prog 10 #[] w fun e w' => e = .returned (.bool true) ∧ Below w.heap.size w w':=by
 go_enter Tryz.func10,Tryz.ntmps10
 go_wp2_with fail
 refine (pnew_any w).mono ?_
 rintro e w1 ⟨rfl,hB⟩
 have hs:=hB.size
 go_wp2_with fail
 refine (lspan_any 90 w1).mono ?_
 rintro e w2 ⟨rfl,hb⟩
 replace hB:=hB.trans (hb.mono hs)
 replace hs:=hB.size
 clear hb
 go_wp2_with fail
 refine (lcontact_any 7 20 15 w2 (by decide)).mono ?_
 rintro e w3 ⟨rfl,hb⟩
 replace hB:=hB.trans (hb.mono hs)
 replace hs:=hB.size
 clear hb
 go_wp2_with fail
 refine (lcontact_any 8 30 25 w3 (by decide)).mono ?_
 rintro e w4 ⟨rfl,hb⟩
 replace hB:=hB.trans (hb.mono hs)
 replace hs:=hB.size
 clear hb
 have ho:=own_lit w4 0 37 13 3 #[.int .i64 1,.int .i64 2,.int .i64 0,.int .i64 0,.int .i64 0,.int .i64 0,.int .i64 0,.int .i64 0,.int .i64 1,.int .i64 2,.int .i64 0,.int .i64 90,.int .i64 4,.int .i64 1,.int .i64 1,.int .i64 7,.int .i64 1,.int .i64 2,.int .i64 15,.int .i64 20,.int .i64 3,.int .i64 0,.int .i64 0,.int .i64 0,.int .i64 0,.int .i64 0,.int .i64 1,.int .i64 1,.int .i64 8,.int .i64 1,.int .i64 2,.int .i64 25,.int .i64 30,.int .i64 3,.int .i64 0,.int .i64 0,.int .i64 0,.int .i64 0,.int .i64 0] (by omega) rfl (by simp [maxLen])
 have hb:Below w4.heap.size w4 (w4.alloc (.cells #[.int .i64 1,.int .i64 2,.int .i64 0,.int .i64 0,.int .i64 0,.int .i64 0,.int .i64 0,.int .i64 0,.int .i64 1,.int .i64 2,.int .i64 0,.int .i64 90,.int .i64 4,.int .i64 1,.int .i64 1,.int .i64 7,.int .i64 1,.int .i64 2,.int .i64 15,.int .i64 20,.int .i64 3,.int .i64 0,.int .i64 0,.int .i64 0,.int .i64 0,.int .i64 0,.int .i64 1,.int .i64 1,.int .i64 8,.int .i64 1,.int .i64 2,.int .i64 25,.int .i64 30,.int .i64 3,.int .i64 0,.int .i64 0,.int .i64 0,.int .i64 0,.int .i64 0] 37)):=by (repeat (first | exact Below.refl _ _ | refine Below.alloc ?_ (by first | omega | (simp; done) | (simp; omega)) _ | refine Below.setCell ?_ (by first | omega | (simp; done) | (simp; omega)) _ | refine Below.drew ?_))
 replace hB:=hB.trans (hb.mono hs)
 replace hs:=hB.size
 clear hb
 go_wp2_with fail
 generalize w4.alloc (.cells #[.int .i64 1,.int .i64 2,.int .i64 0,.int .i64 0,.int .i64 0,.int .i64 0,.int .i64 0,.int .i64 0,.int .i64 1,.int .i64 2,.int .i64 0,.int .i64 90,.int .i64 4,.int .i64 1,.int .i64 1,.int .i64 7,.int .i64 1,.int .i64 2,.int .i64 15,.int .i64 20,.int .i64 3,.int .i64 0,.int .i64 0,.int .i64 0,.int .i64 0,.int .i64 0,.int .i64 1,.int .i64 1,.int .i64 8,.int .i64 1,.int .i64 2,.int .i64 25,.int .i64 30,.int .i64 3,.int .i64 0,.int .i64 0,.int .i64 0,.int .i64 0,.int .i64 0] 37) = w5 at *
 refine (pall_any none 0 0 none 0 0 s08_0 (some ⟨w4.heap.size,0,none⟩) 3 3 s08_d w5 rfl (by omega) s08_dw ⟨rfl,rfl,by omega,by omega,Sl.nil0 _ _ _,Sl.nil0 _ _ _⟩ (Sl.of_own ho) s08_r0).mono ?_
 rintro e w6 hret
 obtain ⟨A1,c1,A2,c2,rfl,fp,hb⟩:=allRet_is s08_p 0 3 3 0 3 2 1 hret s08_q1 rfl s08_p1 rfl rfl rfl rfl
 clear hret ho
 replace hB:=hB.trans (hb.mono hs)
 replace hs:=hB.size
 clear hb
 go_upto_region 2 with fail
 have bp:=Blok.new w6 25 #[.slice A1 2 c1,.slice A2 1 c2,.int .i64 0,.int .i64 3]
 have hb:Below w6.heap.size w6 (w6.alloc (.cells #[.slice A1 2 c1,.slice A2 1 c2,.int .i64 0,.int .i64 3] 25)):=by (repeat (first | exact Below.refl _ _ | refine Below.alloc ?_ (by first | omega | (simp; done) | (simp; omega)) _ | refine Below.setCell ?_ (by first | omega | (simp; done) | (simp; omega)) _ | refine Below.drew ?_))
 replace fp:=fp.up hb
 replace hB:=hB.trans (hb.mono hs)
 replace hs:=hB.size
 clear hb
 generalize w6.alloc (.cells #[.slice A1 2 c1,.slice A2 1 c2,.int .i64 0,.int .i64 3] 25) = w6v at *
 generalize w6.heap.size = Bp at *
 obtain ⟨n_0,n_1,n_2,n_3,lt_n_⟩:=blok4 (show Blok _ _ _ #[.slice A1 2 c1,.slice A2 1 c2,.int .i64 0,.int .i64 3] from bp)
 obtain ⟨nf_0,nf_1,nf_2,nf_3⟩:=free4 bp
 go_wp2_with fail
 clear n_0 n_1 n_2 n_3 nf_0 nf_1 nf_2 nf_3 lt_n_
 refine (padv_any A1 2 c1 A2 1 c2 s08_p 20 w6v fp (by decide) (by decide)).mono ?_
 rintro e w7 hret
 obtain ⟨A3,c3,A4,c4,A5,c5,rfl,fq,fg,hb⟩:=advRet_is s08_q [7] 0 20 4 1 1 1 hret s08_q2 s08_p2 s08_g2 rfl rfl rfl rfl rfl
 clear hret
 replace fp:=fp.up hb
 replace bp:=bp.below hb bp.lt
 replace hB:=hB.trans (hb.mono hs)
 replace hs:=hB.size
 clear hb
 go_upto_region 3 with fail
 have bq:=Blok.new w7 25 #[.slice A3 1 c3,.slice A4 1 c4,.int .i64 20,.int .i64 4]
 have hb:Below w7.heap.size w7 (w7.alloc (.cells #[.slice A3 1 c3,.slice A4 1 c4,.int .i64 20,.int .i64 4] 25)):=by (repeat (first | exact Below.refl _ _ | refine Below.alloc ?_ (by first | omega | (simp; done) | (simp; omega)) _ | refine Below.setCell ?_ (by first | omega | (simp; done) | (simp; omega)) _ | refine Below.drew ?_))
 replace fp:=fp.up hb
 replace fq:=fq.up hb
 replace fg:=fg.up hb
 replace bp:=bp.below hb bp.lt
 replace hB:=hB.trans (hb.mono hs)
 replace hs:=hB.size
 clear hb
 generalize w7.alloc (.cells #[.slice A3 1 c3,.slice A4 1 c4,.int .i64 20,.int .i64 4] 25) = w7v at *
 generalize w7.heap.size = Bq at *
 have hq0:=bq.lt
 refine gen_frame ?_
 intro a0 ha0
 try simp only [List.append]
 refine wp_region_frames rfl (by kernel_rfl) (by kernel_rfl) (fun V x w' => Below w7v.heap.size w7v w' ∧ (V.getD 0 true = true → x 0 = .agg #[.slice A3 1 c3,.slice A4 1 c4,.int .i64 20,.int .i64 4]) ∧ (V.getD 1 true = true → x 1 = .agg #[.int .i64 1,.int .i64 1,.int .i64 9,.int .i64 1,.int .i64 2,.int .i64 15,.int .i64 20,.int .i64 3,.int .i64 0,.int .i64 0,.int .i64 0,.int .i64 0,.int .i64 0]) ∧ (V.getD 2 true = true → ∃ cs:Array Value,cs.size = 4 ∧ cs.all (·.oneCell') = true ∧ x 2 = .tuple #[.agg cs,.int .i64 7]) ∧ (V.getD 3 true = true → ∃ cs:Array Value,cs.size = 4 ∧ cs.all (·.oneCell') = true ∧ x 3 = .tuple #[.agg cs,.int .i64 7]) ∧ (V.getD 4 true = true → ∃ cs:Array Value,cs.size = 4 ∧ cs.all (·.oneCell') = true ∧ x 4 = .agg cs) ∧ (V.getD 5 true = true → x 5 = .int .i64 7) ∧ (V.getD 6 true = true → ∃ b cs,cs.size = 4 ∧ w7v.heap.size ≤ b ∧ x 6 = .pointer (some ⟨b,0,none⟩) ∧ Blok w' b 25 cs) ∧ (V.getD 8 true = true → x 8 = .int .i64 7)) ?_ ?_ ?_
 ·intro x
  refine ⟨(Below.refl _ _).drew,?_,?_,?_,?_,?_,?_,?_,?_⟩ <;> exact fun h => by simp at h
 ·intro V x b w' hbq hsz hF i hi hun haf hcl
  obtain ⟨hBw,f0,f1,f2,f3,f4,f5,f6,f8⟩:=hF
  have hbe:b = putAll a0 [some 36,some 37,some 38,some 35,some 39,some 40,some 7,none,some 8] x 0:=hbq
  have hz0:a0.tmps.size = 168:=by rw [ha0]; rfl
  have e4:b.eval (.tmp 4) = .pointer (some ⟨Bq,0,none⟩):=by rw [hbe,eval_out _ _ _ (by decide),ha0]; rfl
  have t4:b.tmps[4]?.getD undef = .pointer (some ⟨Bq,0,none⟩):=by simpa [Act.eval] using e4
  clear hbq
  have hi':i < 9:=hi
  clear hi
  obtain rfl | rfl | rfl | rfl | rfl | rfl | rfl | rfl | rfl:i = 0 ∨ i = 1 ∨ i = 2 ∨ i = 3 ∨ i = 4 ∨ i = 5 ∨ i = 6 ∨ i = 7 ∨ i = 8:=by omega
  ·have bq2:=bq.below hBw bq.lt
   obtain ⟨n_0,n_1,n_2,n_3,lt_n_⟩:=blok4 (show Blok _ _ _ #[.slice A3 1 c3,.slice A4 1 c4,.int .i64 20,.int .i64 4] from bq2)
   obtain ⟨nf_0,nf_1,nf_2,nf_3⟩:=free4 bq2
   refine wpOp_run (v:=.agg #[.slice A3 1 c3,.slice A4 1 c4,.int .i64 20,.int .i64 4]) rfl rfl (by simp [execOp,go_sem,t4,n_0,n_1,n_2,n_3,nf_0,nf_1,nf_2,nf_3,lt_n_]) ⟨_,_,rfl,rfl,⟨hBw,fun _ => upd_same _ _ _,fun h => by rw [upd_ne x _ (by decide)]; exact f1 (by rw [← getD_set_ne true (show 0 ≠ 1 by decide)]; exact h),fun h => by rw [upd_ne x _ (by decide)]; exact f2 (by rw [← getD_set_ne true (show 0 ≠ 2 by decide)]; exact h),fun h => by rw [upd_ne x _ (by decide)]; exact f3 (by rw [← getD_set_ne true (show 0 ≠ 3 by decide)]; exact h),fun h => by rw [upd_ne x _ (by decide)]; exact f4 (by rw [← getD_set_ne true (show 0 ≠ 4 by decide)]; exact h),fun h => by rw [upd_ne x _ (by decide)]; exact f5 (by rw [← getD_set_ne true (show 0 ≠ 5 by decide)]; exact h),fun h => by rw [upd_ne x _ (by decide)]; exact f6 (by rw [← getD_set_ne true (show 0 ≠ 6 by decide)]; exact h),fun h => by rw [upd_ne x _ (by decide)]; exact f8 (by rw [← getD_set_ne true (show 0 ≠ 8 by decide)]; exact h)⟩⟩
  ·refine wpOp_of rfl ?_
   refine step_call rfl 33 #[.const (.int .i64 9),.const (.int .i64 20)] _ rfl #[.int .i64 9,.int .i64 20] (by simp [Act.eval]) Tryz.func33 rfl rfl ?_
   refine (lcontact_any 9 20 15 _ (by decide)).mono ?_
   rintro e w'' ⟨rfl,hb⟩
   exact ⟨_,rfl,_,_,rfl,rfl,⟨hBw.trans (hb.mono hBw.size),fun h => by rw [upd_ne x _ (by decide)]; exact f0 (by rw [← getD_set_ne true (show 1 ≠ 0 by decide)]; exact h),fun _ => upd_same _ _ _,fun h => by rw [upd_ne x _ (by decide)]; exact f2 (by rw [← getD_set_ne true (show 1 ≠ 2 by decide)]; exact h),fun h => by rw [upd_ne x _ (by decide)]; exact f3 (by rw [← getD_set_ne true (show 1 ≠ 3 by decide)]; exact h),fun h => by rw [upd_ne x _ (by decide)]; exact f4 (by rw [← getD_set_ne true (show 1 ≠ 4 by decide)]; exact h),fun h => by rw [upd_ne x _ (by decide)]; exact f5 (by rw [← getD_set_ne true (show 1 ≠ 5 by decide)]; exact h),fun h => by obtain ⟨b6,cs6,hz6,hl6,hx6,hk6⟩:=f6 (by rw [← getD_set_ne true (show 1 ≠ 6 by decide)]; exact h); exact ⟨b6,cs6,hz6,hl6,by rw [upd_ne x _ (by decide)]; exact hx6,hk6.below hb hk6.lt⟩,fun h => by rw [upd_ne x _ (by decide)]; exact f8 (by rw [← getD_set_ne true (show 1 ≠ 8 by decide)]; exact h)⟩⟩
  ·have d0:=getD_ft (haf _ rfl ⟨0,.data⟩ (by simp) rfl)
   have d1:=getD_ft (haf _ rfl ⟨1,.data⟩ (by simp) rfl)
   have e36:b.eval (.tmp 36) = .agg #[.slice A3 1 c3,.slice A4 1 c4,.int .i64 20,.int .i64 4]:=by rw [hbe,eval_in _ _ _ 0 (by decide) rfl (by rw [hz0]; decide)]; exact f0 d0
   have e37:b.eval (.tmp 37) = .agg #[.int .i64 1,.int .i64 1,.int .i64 9,.int .i64 1,.int .i64 2,.int .i64 15,.int .i64 20,.int .i64 3,.int .i64 0,.int .i64 0,.int .i64 0,.int .i64 0,.int .i64 0]:=by rw [hbe,eval_in _ _ _ 1 (by decide) rfl (by rw [hz0]; decide)]; exact f1 d1
   refine wpOp_of rfl ?_
   refine step_call rfl 23 #[.tmp 36,.tmp 37] _ rfl #[.agg #[.slice A3 1 c3,.slice A4 1 c4,.int .i64 20,.int .i64 4],.agg #[.int .i64 1,.int .i64 1,.int .i64 9,.int .i64 1,.int .i64 2,.int .i64 15,.int .i64 20,.int .i64 3,.int .i64 0,.int .i64 0,.int .i64 0,.int .i64 0,.int .i64 0]] (by simp [e36,e37]) Tryz.func23 rfl rfl ?_
   refine (papply_any A3 1 c3 A4 1 c4 s08_q ⟨1,1,9,1,2,15,20,3,0,0,0,0,0⟩ w' (by decide) (by decide) (fq.up hBw) s08_rq).mono ?_
   rintro e w'' hret
   obtain ⟨A6,c6,A7,c7,rfl,_,hb⟩:=applyRet_is s08_q 7 20 4 1 1 hret s08_q3 (stepP_no s08_q3 (by decide)) rfl rfl rfl rfl
   exact ⟨_,rfl,_,_,rfl,rfl,⟨hBw.trans (hb.mono hBw.size),fun h => by rw [upd_ne x _ (by decide)]; exact f0 (by rw [← getD_set_ne true (show 2 ≠ 0 by decide)]; exact h),fun h => by rw [upd_ne x _ (by decide)]; exact f1 (by rw [← getD_set_ne true (show 2 ≠ 1 by decide)]; exact h),fun _ => ⟨#[.slice A6 1 c6,.slice A7 1 c7,.int .i64 20,.int .i64 4],rfl,by simp [Value.oneCell'],upd_same _ _ _⟩,fun h => by rw [upd_ne x _ (by decide)]; exact f3 (by rw [← getD_set_ne true (show 2 ≠ 3 by decide)]; exact h),fun h => by rw [upd_ne x _ (by decide)]; exact f4 (by rw [← getD_set_ne true (show 2 ≠ 4 by decide)]; exact h),fun h => by rw [upd_ne x _ (by decide)]; exact f5 (by rw [← getD_set_ne true (show 2 ≠ 5 by decide)]; exact h),fun h => by obtain ⟨b6,cs6,hz6,hl6,hx6,hk6⟩:=f6 (by rw [← getD_set_ne true (show 2 ≠ 6 by decide)]; exact h); exact ⟨b6,cs6,hz6,hl6,by rw [upd_ne x _ (by decide)]; exact hx6,hk6.below hb hk6.lt⟩,fun h => by rw [upd_ne x _ (by decide)]; exact f8 (by rw [← getD_set_ne true (show 2 ≠ 8 by decide)]; exact h)⟩⟩
  ·have d2:=getD_ft (haf _ rfl ⟨2,.data⟩ (by simp) rfl)
   obtain ⟨cs,hz,h1,hx⟩:=f2 d2
   have ev:b.eval (.tmp 38) = .tuple #[.agg cs,.int .i64 7]:=by rw [hbe,eval_in _ _ _ 2 (by decide) rfl (by rw [hz0]; decide)]; exact hx
   refine wpOp_run (v:=.tuple #[.agg cs,.int .i64 7]) rfl rfl (by have tv:=ev; simp only [Act.eval,Array.getD_eq_getD_getElem?] at tv; simp [execOp,go_sem,tv]) ⟨_,_,rfl,rfl,⟨hBw,fun h => by rw [upd_ne x _ (by decide)]; exact f0 (by rw [← getD_set_ne true (show 3 ≠ 0 by decide)]; exact h),fun h => by rw [upd_ne x _ (by decide)]; exact f1 (by rw [← getD_set_ne true (show 3 ≠ 1 by decide)]; exact h),fun h => by rw [upd_ne x _ (by decide)]; exact f2 (by rw [← getD_set_ne true (show 3 ≠ 2 by decide)]; exact h),fun _ => ⟨cs,hz,h1,upd_same _ _ _⟩,fun h => by rw [upd_ne x _ (by decide)]; exact f4 (by rw [← getD_set_ne true (show 3 ≠ 4 by decide)]; exact h),fun h => by rw [upd_ne x _ (by decide)]; exact f5 (by rw [← getD_set_ne true (show 3 ≠ 5 by decide)]; exact h),fun h => by rw [upd_ne x _ (by decide)]; exact f6 (by rw [← getD_set_ne true (show 3 ≠ 6 by decide)]; exact h),fun h => by rw [upd_ne x _ (by decide)]; exact f8 (by rw [← getD_set_ne true (show 3 ≠ 8 by decide)]; exact h)⟩⟩
  ·have d3:=getD_ft (haf _ rfl ⟨3,.data⟩ (by simp) rfl)
   obtain ⟨cs,hz,h1,hx⟩:=f3 d3
   have ev:b.eval (.tmp 35) = .tuple #[.agg cs,.int .i64 7]:=by rw [hbe,eval_in _ _ _ 3 (by decide) rfl (by rw [hz0]; decide)]; exact hx
   refine wpOp_run (v:=.agg cs) rfl rfl (by have tv:=ev; simp only [Act.eval,Array.getD_eq_getD_getElem?] at tv; simp [execOp,go_sem,tv]) ⟨_,_,rfl,rfl,⟨hBw,fun h => by rw [upd_ne x _ (by decide)]; exact f0 (by rw [← getD_set_ne true (show 4 ≠ 0 by decide)]; exact h),fun h => by rw [upd_ne x _ (by decide)]; exact f1 (by rw [← getD_set_ne true (show 4 ≠ 1 by decide)]; exact h),fun h => by rw [upd_ne x _ (by decide)]; exact f2 (by rw [← getD_set_ne true (show 4 ≠ 2 by decide)]; exact h),fun h => by rw [upd_ne x _ (by decide)]; exact f3 (by rw [← getD_set_ne true (show 4 ≠ 3 by decide)]; exact h),fun _ => ⟨cs,hz,h1,upd_same _ _ _⟩,fun h => by rw [upd_ne x _ (by decide)]; exact f5 (by rw [← getD_set_ne true (show 4 ≠ 5 by decide)]; exact h),fun h => by rw [upd_ne x _ (by decide)]; exact f6 (by rw [← getD_set_ne true (show 4 ≠ 6 by decide)]; exact h),fun h => by rw [upd_ne x _ (by decide)]; exact f8 (by rw [← getD_set_ne true (show 4 ≠ 8 by decide)]; exact h)⟩⟩
  ·have d3:=getD_ft (haf _ rfl ⟨3,.data⟩ (by simp) rfl)
   obtain ⟨cs,hz,h1,hx⟩:=f3 d3
   have ev:b.eval (.tmp 35) = .tuple #[.agg cs,.int .i64 7]:=by rw [hbe,eval_in _ _ _ 3 (by decide) rfl (by rw [hz0]; decide)]; exact hx
   refine wpOp_run (v:=.int .i64 7) rfl rfl (by have tv:=ev; simp only [Act.eval,Array.getD_eq_getD_getElem?] at tv; simp [execOp,go_sem,tv]) ⟨_,_,rfl,rfl,⟨hBw,fun h => by rw [upd_ne x _ (by decide)]; exact f0 (by rw [← getD_set_ne true (show 5 ≠ 0 by decide)]; exact h),fun h => by rw [upd_ne x _ (by decide)]; exact f1 (by rw [← getD_set_ne true (show 5 ≠ 1 by decide)]; exact h),fun h => by rw [upd_ne x _ (by decide)]; exact f2 (by rw [← getD_set_ne true (show 5 ≠ 2 by decide)]; exact h),fun h => by rw [upd_ne x _ (by decide)]; exact f3 (by rw [← getD_set_ne true (show 5 ≠ 3 by decide)]; exact h),fun h => by rw [upd_ne x _ (by decide)]; exact f4 (by rw [← getD_set_ne true (show 5 ≠ 4 by decide)]; exact h),fun _ => upd_same _ _ _,fun h => by rw [upd_ne x _ (by decide)]; exact f6 (by rw [← getD_set_ne true (show 5 ≠ 6 by decide)]; exact h),fun h => by rw [upd_ne x _ (by decide)]; exact f8 (by rw [← getD_set_ne true (show 5 ≠ 8 by decide)]; exact h)⟩⟩
  ·have hb:Below w'.heap.size w' (w'.alloc (.cells #[.slice none 0 0,.slice none 0 0,.int .i64 0,.int .i64 0] 25)):=by (repeat (first | exact Below.refl _ _ | refine Below.alloc ?_ (by first | omega | (simp; done) | (simp; omega)) _ | refine Below.setCell ?_ (by first | omega | (simp; done) | (simp; omega)) _ | refine Below.drew ?_))
   refine wpOp_run (v:=.pointer (some ⟨w'.heap.size,0,none⟩)) (w':=w'.alloc (.cells #[.slice none 0 0,.slice none 0 0,.int .i64 0,.int .i64 0] 25)) rfl rfl (by simp [execOp,go_sem]) ⟨_,_,rfl,rfl,⟨hBw.trans (hb.mono hBw.size),fun h => by rw [upd_ne x _ (by decide)]; exact f0 (by rw [← getD_set_ne true (show 6 ≠ 0 by decide)]; exact h),fun h => by rw [upd_ne x _ (by decide)]; exact f1 (by rw [← getD_set_ne true (show 6 ≠ 1 by decide)]; exact h),fun h => by rw [upd_ne x _ (by decide)]; exact f2 (by rw [← getD_set_ne true (show 6 ≠ 2 by decide)]; exact h),fun h => by rw [upd_ne x _ (by decide)]; exact f3 (by rw [← getD_set_ne true (show 6 ≠ 3 by decide)]; exact h),fun h => by rw [upd_ne x _ (by decide)]; exact f4 (by rw [← getD_set_ne true (show 6 ≠ 4 by decide)]; exact h),fun h => by rw [upd_ne x _ (by decide)]; exact f5 (by rw [← getD_set_ne true (show 6 ≠ 5 by decide)]; exact h),fun _ => ⟨w'.heap.size,#[.slice none 0 0,.slice none 0 0,.int .i64 0,.int .i64 0],rfl,hBw.size,upd_same _ _ _,Blok.new _ _ _⟩,fun h => by rw [upd_ne x _ (by decide)]; exact f8 (by rw [← getD_set_ne true (show 6 ≠ 8 by decide)]; exact h)⟩⟩
  ·have d6:=getD_ft (haf _ rfl ⟨6,.data⟩ (by simp) rfl)
   have d4:=getD_ft (haf _ rfl ⟨4,.data⟩ (by simp) rfl)
   obtain ⟨b6,c6,hz6,hl6,hx6,hk6⟩:=f6 d6
   obtain ⟨cs,hz,h1,hx⟩:=f4 d4
   have e7:b.eval (.tmp 7) = .pointer (some ⟨b6,0,none⟩):=by rw [hbe,eval_in _ _ _ 6 (by decide) rfl (by rw [hz0]; decide)]; exact hx6
   have e39:b.eval (.tmp 39) = .agg cs:=by rw [hbe,eval_in _ _ _ 4 (by decide) rfl (by rw [hz0]; decide)]; exact hx
   refine wpOp_of rfl ?_
   rw [if_pos (by simp [Region.wanted])]
   refine wp_store_mid 25 (.tmp 7) (.tmp 39) rfl b6 0 cs e7 e39 ?_ (by rw [hz]; kernel_rfl) h1 ?_
   ·intro j hj
    rw [Nat.zero_add]
    refine ⟨?_,hk6.free j⟩
    rw [hk6.cell j]
    have:j < c6.size:=by omega
    simp [this]
   ·refine ⟨_,_,rfl,rfl,⟨set_below b6 hl6 _ _ hBw,fun h => by rw [upd_ne x _ (by decide)]; exact f0 (by rw [← getD_set_ne true (show 7 ≠ 0 by decide)]; exact h),fun h => by rw [upd_ne x _ (by decide)]; exact f1 (by rw [← getD_set_ne true (show 7 ≠ 1 by decide)]; exact h),fun h => by rw [upd_ne x _ (by decide)]; exact f2 (by rw [← getD_set_ne true (show 7 ≠ 2 by decide)]; exact h),fun h => by rw [upd_ne x _ (by decide)]; exact f3 (by rw [← getD_set_ne true (show 7 ≠ 3 by decide)]; exact h),fun h => by rw [upd_ne x _ (by decide)]; exact f4 (by rw [← getD_set_ne true (show 7 ≠ 4 by decide)]; exact h),fun h => by rw [upd_ne x _ (by decide)]; exact f5 (by rw [← getD_set_ne true (show 7 ≠ 5 by decide)]; exact h),fun h => ⟨b6,cs,hz,hl6,by rw [upd_ne x _ (by decide)]; exact hx6,set_whole hk6 (by rw [hz,hz6])⟩,fun h => by rw [upd_ne x _ (by decide)]; exact f8 (by rw [← getD_set_ne true (show 7 ≠ 8 by decide)]; exact h)⟩⟩
  ·have d5:=getD_ft (haf _ rfl ⟨5,.data⟩ (by simp) rfl)
   have ev:b.eval (.tmp 40) = .int .i64 7:=by rw [hbe,eval_in _ _ _ 5 (by decide) rfl (by rw [hz0]; decide)]; exact f5 d5
   refine wpOp_run (v:=.int .i64 7) rfl rfl (by have tv:=ev; simp only [Act.eval,Array.getD_eq_getD_getElem?] at tv; simp [execOp,go_sem,tv]) ⟨_,_,rfl,rfl,⟨hBw,fun h => by rw [upd_ne x _ (by decide)]; exact f0 (by rw [← getD_set_ne true (show 8 ≠ 0 by decide)]; exact h),fun h => by rw [upd_ne x _ (by decide)]; exact f1 (by rw [← getD_set_ne true (show 8 ≠ 1 by decide)]; exact h),fun h => by rw [upd_ne x _ (by decide)]; exact f2 (by rw [← getD_set_ne true (show 8 ≠ 2 by decide)]; exact h),fun h => by rw [upd_ne x _ (by decide)]; exact f3 (by rw [← getD_set_ne true (show 8 ≠ 3 by decide)]; exact h),fun h => by rw [upd_ne x _ (by decide)]; exact f4 (by rw [← getD_set_ne true (show 8 ≠ 4 by decide)]; exact h),fun h => by rw [upd_ne x _ (by decide)]; exact f5 (by rw [← getD_set_ne true (show 8 ≠ 5 by decide)]; exact h),fun h => by rw [upd_ne x _ (by decide)]; exact f6 (by rw [← getD_set_ne true (show 8 ≠ 6 by decide)]; exact h),fun _ => upd_same _ _ _⟩⟩
 intro V x w' hall hF
 have h8:=hF.2.2.2.2.2.2.2.2 (hall 8 (by decide))
 have hb:=hF.1
 clear hF hall hq0
 subst ha0
 replace fp:=fp.up hb
 replace fq:=fq.up hb
 replace fg:=fg.up hb
 replace bp:=bp.below hb bp.lt
 replace bq:=bq.below hb bq.lt
 replace hB:=hB.trans (hb.mono hs)
 replace hs:=hB.size
 clear hb
 simp only [List.map_cons,List.map_nil,putAll,h8]
 clear h8
 go_simp
 obtain ⟨n_0,n_1,n_2,n_3,lt_n_⟩:=blok4 (show Blok _ _ _ #[.slice A3 1 c3,.slice A4 1 c4,.int .i64 20,.int .i64 4] from bq)
 obtain ⟨nf_0,nf_1,nf_2,nf_3⟩:=free4 bq
 go_wp2_with fail
 clear n_0 n_1 n_2 n_3 nf_0 nf_1 nf_2 nf_3 lt_n_
 refine (padv_any A3 1 c3 A4 1 c4 s08_q 19 w' fq (by decide) (by decide)).mono ?_
 rintro e w8 hret
 obtain ⟨A6,c6,A7,c7,A8,c8,rfl,_,_,hb⟩:=advRet_is s08_q [] 7 20 4 1 1 0 hret s08_q4 (by unfold advP; rw [if_neg (by decide +kernel)]) (by unfold advG; rw [if_neg (by decide +kernel)]) rfl rfl rfl rfl rfl
 clear hret
 replace fp:=fp.up hb
 replace fq:=fq.up hb
 replace fg:=fg.up hb
 replace bp:=bp.below hb bp.lt
 replace bq:=bq.below hb bq.lt
 replace hB:=hB.trans (hb.mono hs)
 replace hs:=hB.size
 clear hb
 go_upto_region 5 with fail
 have bd:=Blok.new w8 25 #[.slice A6 1 c6,.slice A7 1 c7,.int .i64 20,.int .i64 4]
 have hb:Below w8.heap.size w8 (w8.alloc (.cells #[.slice A6 1 c6,.slice A7 1 c7,.int .i64 20,.int .i64 4] 25)):=by (repeat (first | exact Below.refl _ _ | refine Below.alloc ?_ (by first | omega | (simp; done) | (simp; omega)) _ | refine Below.setCell ?_ (by first | omega | (simp; done) | (simp; omega)) _ | refine Below.drew ?_))
 replace fp:=fp.up hb
 replace fq:=fq.up hb
 replace fg:=fg.up hb
 replace bp:=bp.below hb bp.lt
 replace bq:=bq.below hb bq.lt
 replace hB:=hB.trans (hb.mono hs)
 replace hs:=hB.size
 clear hb
 generalize w8.alloc (.cells #[.slice A6 1 c6,.slice A7 1 c7,.int .i64 20,.int .i64 4] 25) = w8v at *
 generalize w8.heap.size = Bd at *
 clear bd
 obtain ⟨n_0,n_1,n_2,n_3,lt_n_⟩:=blok4 (show Blok _ _ _ #[.slice A3 1 c3,.slice A4 1 c4,.int .i64 20,.int .i64 4] from bq)
 obtain ⟨nf_0,nf_1,nf_2,nf_3⟩:=free4 bq
 go_wp2_with fail
 clear n_0 n_1 n_2 n_3 nf_0 nf_1 nf_2 nf_3 lt_n_
 refine (papply_any A3 1 c3 A4 1 c4 s08_q s08_h w8v (by decide) (by decide) fq s08_rq).mono ?_
 rintro e w9 hret
 obtain ⟨Ar,cr,As,cs,rfl,fr,hb⟩:=applyRet_is s08_r 0 20 5 1 1 hret s08_q5 s08_p5 rfl rfl rfl rfl
 clear hret
 replace fp:=fp.up hb
 replace fq:=fq.up hb
 replace fg:=fg.up hb
 replace bp:=bp.below hb bp.lt
 replace bq:=bq.below hb bq.lt
 replace hB:=hB.trans (hb.mono hs)
 replace hs:=hB.size
 clear hb
 go_upto_region 6 with fail
 have br:=Blok.new w9 25 #[.slice Ar 1 cr,.slice As 1 cs,.int .i64 20,.int .i64 5]
 have hb:Below w9.heap.size w9 (w9.alloc (.cells #[.slice Ar 1 cr,.slice As 1 cs,.int .i64 20,.int .i64 5] 25)):=by (repeat (first | exact Below.refl _ _ | refine Below.alloc ?_ (by first | omega | (simp; done) | (simp; omega)) _ | refine Below.setCell ?_ (by first | omega | (simp; done) | (simp; omega)) _ | refine Below.drew ?_))
 replace fp:=fp.up hb
 replace fq:=fq.up hb
 replace fg:=fg.up hb
 replace fr:=fr.up hb
 replace bp:=bp.below hb bp.lt
 replace bq:=bq.below hb bq.lt
 replace hB:=hB.trans (hb.mono hs)
 replace hs:=hB.size
 clear hb
 generalize w9.alloc (.cells #[.slice Ar 1 cr,.slice As 1 cs,.int .i64 20,.int .i64 5] 25) = w9v at *
 generalize w9.heap.size = Br at *
 refine gen_frame ?_
 intro a0 ha0
 try simp only [List.append]
 have hr0:=br.lt
 refine wp_region_frames rfl (by kernel_rfl) (by kernel_rfl) (fun V x w' => Below w9v.heap.size w9v w' ∧ (V.getD 0 true = true → x 0 = .agg #[.slice A3 1 c3,.slice A4 1 c4,.int .i64 20,.int .i64 4]) ∧ (V.getD 1 true = true → x 1 = .agg #[.int .i64 1,.int .i64 1,.int .i64 9,.int .i64 1,.int .i64 2,.int .i64 35,.int .i64 40,.int .i64 3,.int .i64 0,.int .i64 0,.int .i64 0,.int .i64 0,.int .i64 0]) ∧ (V.getD 2 true = true → x 2 = .agg #[.int .i64 1,.int .i64 1,.int .i64 8,.int .i64 1,.int .i64 2,.int .i64 45,.int .i64 50,.int .i64 3,.int .i64 0,.int .i64 0,.int .i64 0,.int .i64 0,.int .i64 0]) ∧ (V.getD 3 true = true → (V.getD 10 true = false → ∃ g,x 3 = .slice (some ⟨g,0,none⟩) 2 2 ∧ w'.ownsRow w9v.heap.size 37 13 (.slice (some ⟨g,0,none⟩) 2 2) 2 (flatDr s08_e))) ∧ (V.getD 4 true = true → ∃ A c A' c',x 4 = .tuple #[.agg #[.slice A 1 c,.slice A' 1 c',.int .i64 20,.int .i64 4],.int .i64 1,.int .i64 4] ∧ PlAt w' A 1 c A' 1 c' s08_q ∧ (V.getD 9 true = true → ∀ b,x 9 = .pointer (some ⟨b,0,none⟩) → Apart b A 1 A' 1)) ∧ (V.getD 5 true = true → (V.getD 4 true = true ∧ x 5 = x 4)) ∧ (V.getD 6 true = true → (V.getD 4 true = true ∧ x 6 = tpl (x 4) 0)) ∧ (V.getD 7 true = true → x 7 = .int .i64 1) ∧ (V.getD 8 true = true → x 8 = .int .i64 4) ∧ (V.getD 9 true = true → ∃ b cs,cs.size = 4 ∧ w9v.heap.size ≤ b ∧ x 9 = .pointer (some ⟨b,0,none⟩) ∧ Blok w' b 25 cs ∧ (V.getD 10 true = true → x 6 = .agg cs)) ∧ (V.getD 11 true = true → x 11 = .int .i64 1) ∧ (V.getD 12 true = true → x 12 = .int .i64 4)) ?_ ?_ ?_
 ·intro x
  refine ⟨(Below.refl _ _).drew,?_,?_,?_,?_,?_,?_,?_,?_,?_,?_,?_,?_⟩ <;> exact fun h => by simp at h
 ·intro V x b w' hbq hsz hF i hi hun haf hcl
  obtain ⟨hBw,f0,f1,f2,f3,f4,f5,f6,f7,f8,f9,f11,f12⟩:=hF
  have hbe:b = putAll a0 [some 55,some 56,some 57,some 58,some 59,some 54,some 60,some 61,some 62,some 14,none,some 15,some 16] x 0:=hbq
  have hz0:a0.tmps.size = 168:=by rw [ha0]; rfl
  have e4:b.eval (.tmp 4) = .pointer (some ⟨Bq,0,none⟩):=by rw [hbe,eval_out _ _ _ (by decide),ha0]; rfl
  have t4:b.tmps[4]?.getD undef = .pointer (some ⟨Bq,0,none⟩):=by simpa [Act.eval] using e4
  clear hbq
  have hi':i < 13:=hi
  clear hi
  obtain rfl | rfl | rfl | rfl | rfl | rfl | rfl | rfl | rfl | rfl | rfl | rfl | rfl:i = 0 ∨ i = 1 ∨ i = 2 ∨ i = 3 ∨ i = 4 ∨ i = 5 ∨ i = 6 ∨ i = 7 ∨ i = 8 ∨ i = 9 ∨ i = 10 ∨ i = 11 ∨ i = 12:=by omega
  ·have bq2:=bq.below hBw bq.lt
   obtain ⟨n_0,n_1,n_2,n_3,lt_n_⟩:=blok4 (show Blok _ _ _ #[.slice A3 1 c3,.slice A4 1 c4,.int .i64 20,.int .i64 4] from bq2)
   obtain ⟨nf_0,nf_1,nf_2,nf_3⟩:=free4 bq2
   refine wpOp_run (v:=.agg #[.slice A3 1 c3,.slice A4 1 c4,.int .i64 20,.int .i64 4]) rfl rfl (by simp [execOp,go_sem,t4,n_0,n_1,n_2,n_3,nf_0,nf_1,nf_2,nf_3,lt_n_]) ⟨_,_,rfl,rfl,⟨hBw,fun _ => upd_same _ _ _,fun h => by rw [upd_ne x _ (by decide)]; exact f1 (by rw [← getD_set_ne true (show 0 ≠ 1 by decide)]; exact h),fun h => by rw [upd_ne x _ (by decide)]; exact f2 (by rw [← getD_set_ne true (show 0 ≠ 2 by decide)]; exact h),fun h h10 => by obtain ⟨g,hx,ho⟩:=f3 (by rw [← getD_set_ne true (show 0 ≠ 3 by decide)]; exact h) (by rw [← getD_set_ne true (show 0 ≠ 10 by decide)]; exact h10); exact ⟨g,by rw [upd_ne x _ (by decide)]; exact hx,ho⟩,fun h => by obtain ⟨A,c,A',c',hx,hp,ha⟩:=f4 (by rw [← getD_set_ne true (show 0 ≠ 4 by decide)]; exact h); exact ⟨A,c,A',c',by rw [upd_ne x _ (by decide)]; exact hx,hp,fun h9 b hx9 => by rw [upd_ne x _ (by decide)] at hx9; exact ha (by rw [← getD_set_ne true (show 0 ≠ 9 by decide)]; exact h9) b hx9⟩,fun h => ⟨getD_mono (f5 (by rw [← getD_set_ne true (show 0 ≠ 5 by decide)]; exact h)).1,by rw [upd_ne x _ (by decide),upd_ne x _ (by decide)]; exact (f5 (by rw [← getD_set_ne true (show 0 ≠ 5 by decide)]; exact h)).2⟩,fun h => ⟨getD_mono (f6 (by rw [← getD_set_ne true (show 0 ≠ 6 by decide)]; exact h)).1,by rw [upd_ne x _ (by decide),upd_ne x _ (by decide)]; exact (f6 (by rw [← getD_set_ne true (show 0 ≠ 6 by decide)]; exact h)).2⟩,fun h => by rw [upd_ne x _ (by decide)]; exact f7 (by rw [← getD_set_ne true (show 0 ≠ 7 by decide)]; exact h),fun h => by rw [upd_ne x _ (by decide)]; exact f8 (by rw [← getD_set_ne true (show 0 ≠ 8 by decide)]; exact h),fun h => by obtain ⟨b9,cs9,hz9,hl9,hx9,hk9,h6⟩:=f9 (by rw [← getD_set_ne true (show 0 ≠ 9 by decide)]; exact h); exact ⟨b9,cs9,hz9,hl9,by rw [upd_ne x _ (by decide)]; exact hx9,hk9,fun h10 => by rw [upd_ne x _ (by decide)]; exact h6 (by rw [← getD_set_ne true (show 0 ≠ 10 by decide)]; exact h10)⟩,fun h => by rw [upd_ne x _ (by decide)]; exact f11 (by rw [← getD_set_ne true (show 0 ≠ 11 by decide)]; exact h),fun h => by rw [upd_ne x _ (by decide)]; exact f12 (by rw [← getD_set_ne true (show 0 ≠ 12 by decide)]; exact h)⟩⟩
  ·refine wpOp_of rfl ?_
   refine step_call rfl 33 #[.const (.int .i64 9),.const (.int .i64 40)] _ rfl #[.int .i64 9,.int .i64 40] (by simp [Act.eval]) Tryz.func33 rfl rfl ?_
   refine (lcontact_any 9 40 35 _ (by decide)).mono ?_
   rintro e w'' ⟨rfl,hb⟩
   exact ⟨_,rfl,_,_,rfl,rfl,⟨hBw.trans (hb.mono hBw.size),fun h => by rw [upd_ne x _ (by decide)]; exact f0 (by rw [← getD_set_ne true (show 1 ≠ 0 by decide)]; exact h),fun _ => upd_same _ _ _,fun h => by rw [upd_ne x _ (by decide)]; exact f2 (by rw [← getD_set_ne true (show 1 ≠ 2 by decide)]; exact h),fun h h10 => by obtain ⟨g,hx,ho⟩:=f3 (by rw [← getD_set_ne true (show 1 ≠ 3 by decide)]; exact h) (by rw [← getD_set_ne true (show 1 ≠ 10 by decide)]; exact h10); exact ⟨g,by rw [upd_ne x _ (by decide)]; exact hx,own_below ho hb⟩,fun h => by obtain ⟨A,c,A',c',hx,hp,ha⟩:=f4 (by rw [← getD_set_ne true (show 1 ≠ 4 by decide)]; exact h); exact ⟨A,c,A',c',by rw [upd_ne x _ (by decide)]; exact hx,hp.up hb,fun h9 b hx9 => by rw [upd_ne x _ (by decide)] at hx9; exact ha (by rw [← getD_set_ne true (show 1 ≠ 9 by decide)]; exact h9) b hx9⟩,fun h => ⟨getD_mono (f5 (by rw [← getD_set_ne true (show 1 ≠ 5 by decide)]; exact h)).1,by rw [upd_ne x _ (by decide),upd_ne x _ (by decide)]; exact (f5 (by rw [← getD_set_ne true (show 1 ≠ 5 by decide)]; exact h)).2⟩,fun h => ⟨getD_mono (f6 (by rw [← getD_set_ne true (show 1 ≠ 6 by decide)]; exact h)).1,by rw [upd_ne x _ (by decide),upd_ne x _ (by decide)]; exact (f6 (by rw [← getD_set_ne true (show 1 ≠ 6 by decide)]; exact h)).2⟩,fun h => by rw [upd_ne x _ (by decide)]; exact f7 (by rw [← getD_set_ne true (show 1 ≠ 7 by decide)]; exact h),fun h => by rw [upd_ne x _ (by decide)]; exact f8 (by rw [← getD_set_ne true (show 1 ≠ 8 by decide)]; exact h),fun h => by obtain ⟨b9,cs9,hz9,hl9,hx9,hk9,h6⟩:=f9 (by rw [← getD_set_ne true (show 1 ≠ 9 by decide)]; exact h); exact ⟨b9,cs9,hz9,hl9,by rw [upd_ne x _ (by decide)]; exact hx9,hk9.below hb hk9.lt,fun h10 => by rw [upd_ne x _ (by decide)]; exact h6 (by rw [← getD_set_ne true (show 1 ≠ 10 by decide)]; exact h10)⟩,fun h => by rw [upd_ne x _ (by decide)]; exact f11 (by rw [← getD_set_ne true (show 1 ≠ 11 by decide)]; exact h),fun h => by rw [upd_ne x _ (by decide)]; exact f12 (by rw [← getD_set_ne true (show 1 ≠ 12 by decide)]; exact h)⟩⟩
  ·refine wpOp_of rfl ?_
   refine step_call rfl 33 #[.const (.int .i64 8),.const (.int .i64 50)] _ rfl #[.int .i64 8,.int .i64 50] (by simp [Act.eval]) Tryz.func33 rfl rfl ?_
   refine (lcontact_any 8 50 45 _ (by decide)).mono ?_
   rintro e w'' ⟨rfl,hb⟩
   exact ⟨_,rfl,_,_,rfl,rfl,⟨hBw.trans (hb.mono hBw.size),fun h => by rw [upd_ne x _ (by decide)]; exact f0 (by rw [← getD_set_ne true (show 2 ≠ 0 by decide)]; exact h),fun h => by rw [upd_ne x _ (by decide)]; exact f1 (by rw [← getD_set_ne true (show 2 ≠ 1 by decide)]; exact h),fun _ => upd_same _ _ _,fun h h10 => by obtain ⟨g,hx,ho⟩:=f3 (by rw [← getD_set_ne true (show 2 ≠ 3 by decide)]; exact h) (by rw [← getD_set_ne true (show 2 ≠ 10 by decide)]; exact h10); exact ⟨g,by rw [upd_ne x _ (by decide)]; exact hx,own_below ho hb⟩,fun h => by obtain ⟨A,c,A',c',hx,hp,ha⟩:=f4 (by rw [← getD_set_ne true (show 2 ≠ 4 by decide)]; exact h); exact ⟨A,c,A',c',by rw [upd_ne x _ (by decide)]; exact hx,hp.up hb,fun h9 b hx9 => by rw [upd_ne x _ (by decide)] at hx9; exact ha (by rw [← getD_set_ne true (show 2 ≠ 9 by decide)]; exact h9) b hx9⟩,fun h => ⟨getD_mono (f5 (by rw [← getD_set_ne true (show 2 ≠ 5 by decide)]; exact h)).1,by rw [upd_ne x _ (by decide),upd_ne x _ (by decide)]; exact (f5 (by rw [← getD_set_ne true (show 2 ≠ 5 by decide)]; exact h)).2⟩,fun h => ⟨getD_mono (f6 (by rw [← getD_set_ne true (show 2 ≠ 6 by decide)]; exact h)).1,by rw [upd_ne x _ (by decide),upd_ne x _ (by decide)]; exact (f6 (by rw [← getD_set_ne true (show 2 ≠ 6 by decide)]; exact h)).2⟩,fun h => by rw [upd_ne x _ (by decide)]; exact f7 (by rw [← getD_set_ne true (show 2 ≠ 7 by decide)]; exact h),fun h => by rw [upd_ne x _ (by decide)]; exact f8 (by rw [← getD_set_ne true (show 2 ≠ 8 by decide)]; exact h),fun h => by obtain ⟨b9,cs9,hz9,hl9,hx9,hk9,h6⟩:=f9 (by rw [← getD_set_ne true (show 2 ≠ 9 by decide)]; exact h); exact ⟨b9,cs9,hz9,hl9,by rw [upd_ne x _ (by decide)]; exact hx9,hk9.below hb hk9.lt,fun h10 => by rw [upd_ne x _ (by decide)]; exact h6 (by rw [← getD_set_ne true (show 2 ≠ 10 by decide)]; exact h10)⟩,fun h => by rw [upd_ne x _ (by decide)]; exact f11 (by rw [← getD_set_ne true (show 2 ≠ 11 by decide)]; exact h),fun h => by rw [upd_ne x _ (by decide)]; exact f12 (by rw [← getD_set_ne true (show 2 ≠ 12 by decide)]; exact h)⟩⟩
  ·have d1:=getD_ft (haf _ rfl ⟨1,.data⟩ (by simp) rfl)
   have d2:=getD_ft (haf _ rfl ⟨2,.data⟩ (by simp) rfl)
   have e56:b.eval (.tmp 56) = .agg #[.int .i64 1,.int .i64 1,.int .i64 9,.int .i64 1,.int .i64 2,.int .i64 35,.int .i64 40,.int .i64 3,.int .i64 0,.int .i64 0,.int .i64 0,.int .i64 0,.int .i64 0]:=by rw [hbe,eval_in _ _ _ 1 (by decide) rfl (by rw [hz0]; decide)]; exact f1 d1
   have t56:b.tmps[56]?.getD undef = .agg #[.int .i64 1,.int .i64 1,.int .i64 9,.int .i64 1,.int .i64 2,.int .i64 35,.int .i64 40,.int .i64 3,.int .i64 0,.int .i64 0,.int .i64 0,.int .i64 0,.int .i64 0]:=by have tv:=e56; simpa only [Act.eval,Array.getD_eq_getD_getElem?] using tv
   have e57:b.eval (.tmp 57) = .agg #[.int .i64 1,.int .i64 1,.int .i64 8,.int .i64 1,.int .i64 2,.int .i64 45,.int .i64 50,.int .i64 3,.int .i64 0,.int .i64 0,.int .i64 0,.int .i64 0,.int .i64 0]:=by rw [hbe,eval_in _ _ _ 2 (by decide) rfl (by rw [hz0]; decide)]; exact f2 d2
   have t57:b.tmps[57]?.getD undef = .agg #[.int .i64 1,.int .i64 1,.int .i64 8,.int .i64 1,.int .i64 2,.int .i64 45,.int .i64 50,.int .i64 3,.int .i64 0,.int .i64 0,.int .i64 0,.int .i64 0,.int .i64 0]:=by have tv:=e57; simpa only [Act.eval,Array.getD_eq_getD_getElem?] using tv
   have hb:Below w'.heap.size w' (w'.alloc (.cells #[.int .i64 1,.int .i64 1,.int .i64 9,.int .i64 1,.int .i64 2,.int .i64 35,.int .i64 40,.int .i64 3,.int .i64 0,.int .i64 0,.int .i64 0,.int .i64 0,.int .i64 0,.int .i64 1,.int .i64 1,.int .i64 8,.int .i64 1,.int .i64 2,.int .i64 45,.int .i64 50,.int .i64 3,.int .i64 0,.int .i64 0,.int .i64 0,.int .i64 0,.int .i64 0] 37)):=by (repeat (first | exact Below.refl _ _ | refine Below.alloc ?_ (by first | omega | (simp; done) | (simp; omega)) _ | refine Below.setCell ?_ (by first | omega | (simp; done) | (simp; omega)) _ | refine Below.drew ?_))
   refine wpOp_run (v:=.slice (some ⟨w'.heap.size,0,none⟩) 2 2) (w':=w'.alloc (.cells #[.int .i64 1,.int .i64 1,.int .i64 9,.int .i64 1,.int .i64 2,.int .i64 35,.int .i64 40,.int .i64 3,.int .i64 0,.int .i64 0,.int .i64 0,.int .i64 0,.int .i64 0,.int .i64 1,.int .i64 1,.int .i64 8,.int .i64 1,.int .i64 2,.int .i64 45,.int .i64 50,.int .i64 3,.int .i64 0,.int .i64 0,.int .i64 0,.int .i64 0,.int .i64 0] 37)) rfl rfl (by simp [execOp,go_sem,t56,t57]) ⟨_,_,rfl,rfl,⟨hBw.trans (hb.mono hBw.size),fun h => by rw [upd_ne x _ (by decide)]; exact f0 (by rw [← getD_set_ne true (show 3 ≠ 0 by decide)]; exact h),fun h => by rw [upd_ne x _ (by decide)]; exact f1 (by rw [← getD_set_ne true (show 3 ≠ 1 by decide)]; exact h),fun h => by rw [upd_ne x _ (by decide)]; exact f2 (by rw [← getD_set_ne true (show 3 ≠ 2 by decide)]; exact h),fun _ => fun _ => ⟨w'.heap.size,upd_same _ _ _,own_lit w' _ 37 13 2 #[.int .i64 1,.int .i64 1,.int .i64 9,.int .i64 1,.int .i64 2,.int .i64 35,.int .i64 40,.int .i64 3,.int .i64 0,.int .i64 0,.int .i64 0,.int .i64 0,.int .i64 0,.int .i64 1,.int .i64 1,.int .i64 8,.int .i64 1,.int .i64 2,.int .i64 45,.int .i64 50,.int .i64 3,.int .i64 0,.int .i64 0,.int .i64 0,.int .i64 0,.int .i64 0] hBw.size rfl (by simp [maxLen])⟩,fun h => by obtain ⟨A,c,A',c',hx,hp,ha⟩:=f4 (by rw [← getD_set_ne true (show 3 ≠ 4 by decide)]; exact h); exact ⟨A,c,A',c',by rw [upd_ne x _ (by decide)]; exact hx,hp.up hb,fun h9 b hx9 => by rw [upd_ne x _ (by decide)] at hx9; exact ha (by rw [← getD_set_ne true (show 3 ≠ 9 by decide)]; exact h9) b hx9⟩,fun h => ⟨getD_mono (f5 (by rw [← getD_set_ne true (show 3 ≠ 5 by decide)]; exact h)).1,by rw [upd_ne x _ (by decide),upd_ne x _ (by decide)]; exact (f5 (by rw [← getD_set_ne true (show 3 ≠ 5 by decide)]; exact h)).2⟩,fun h => ⟨getD_mono (f6 (by rw [← getD_set_ne true (show 3 ≠ 6 by decide)]; exact h)).1,by rw [upd_ne x _ (by decide),upd_ne x _ (by decide)]; exact (f6 (by rw [← getD_set_ne true (show 3 ≠ 6 by decide)]; exact h)).2⟩,fun h => by rw [upd_ne x _ (by decide)]; exact f7 (by rw [← getD_set_ne true (show 3 ≠ 7 by decide)]; exact h),fun h => by rw [upd_ne x _ (by decide)]; exact f8 (by rw [← getD_set_ne true (show 3 ≠ 8 by decide)]; exact h),fun h => by obtain ⟨b9,cs9,hz9,hl9,hx9,hk9,h6⟩:=f9 (by rw [← getD_set_ne true (show 3 ≠ 9 by decide)]; exact h); exact ⟨b9,cs9,hz9,hl9,by rw [upd_ne x _ (by decide)]; exact hx9,hk9.below hb hk9.lt,fun h10 => by rw [upd_ne x _ (by decide)]; exact h6 (by rw [← getD_set_ne true (show 3 ≠ 10 by decide)]; exact h10)⟩,fun h => by rw [upd_ne x _ (by decide)]; exact f11 (by rw [← getD_set_ne true (show 3 ≠ 11 by decide)]; exact h),fun h => by rw [upd_ne x _ (by decide)]; exact f12 (by rw [← getD_set_ne true (show 3 ≠ 12 by decide)]; exact h)⟩⟩
  ·have d0:=getD_ft (haf _ rfl ⟨0,.data⟩ (by simp) rfl)
   have d3:=getD_ft (haf _ rfl ⟨3,.data⟩ (by simp) rfl)
   have e55:b.eval (.tmp 55) = .agg #[.slice A3 1 c3,.slice A4 1 c4,.int .i64 20,.int .i64 4]:=by rw [hbe,eval_in _ _ _ 0 (by decide) rfl (by rw [hz0]; decide)]; exact f0 d0
   have t55:b.tmps[55]?.getD undef = .agg #[.slice A3 1 c3,.slice A4 1 c4,.int .i64 20,.int .i64 4]:=by have tv:=e55; simpa only [Act.eval,Array.getD_eq_getD_getElem?] using tv
   have h10:V.getD 10 true = false:=by
    cases h:V.getD 10 true with
    | false => rfl
    | true =>
     have:=getD_ft (hcl 10 _ rfl h ⟨4,.chain⟩ (by simp) rfl)
     rw [hun] at this
     cases this
   obtain ⟨g,hx3,ho⟩:=f3 d3 h10
   have e58:b.eval (.tmp 58) = .slice (some ⟨g,0,none⟩) 2 2:=by rw [hbe,eval_in _ _ _ 3 (by decide) rfl (by rw [hz0]; decide)]; exact hx3
   have t58:b.tmps[58]?.getD undef = .slice (some ⟨g,0,none⟩) 2 2:=by have tv:=e58; simpa only [Act.eval,Array.getD_eq_getD_getElem?] using tv
   refine wpOp_of rfl ?_
   refine step_call rfl 17 #[.tmp 55,.tmp 58] _ rfl #[.agg #[.slice A3 1 c3,.slice A4 1 c4,.int .i64 20,.int .i64 4],.slice (some ⟨g,0,none⟩) 2 2] (by simp [e55,e58]) Tryz.func17 rfl rfl ?_
   refine (pall_any A3 1 c3 A4 1 c4 s08_q (some ⟨g,0,none⟩) 2 2 s08_e w' rfl (by omega) s08_ew (fq.up hBw) (Sl.of_own ho) s08_rq).mono ?_
   rintro e w'' hret
   have hown:=hret
   obtain ⟨A,c,A',c',rfl,hp,hb⟩:=allRet_is s08_q 4 1 1 20 4 1 1 hret s08_q6 rfl s08_p6 rfl rfl rfl rfl
   have hap:∀ b,b < w'.heap.size → Apart b A 1 A' 1:=by
    obtain ⟨A2,n2,c2,A3',n3,c3',he,ho2,_⟩:=hown
    rw [s08_q6,s08_p6] at he
    rw [s08_p6] at ho2
    have en:n2 = 1:=ho2.l1.symm.trans rfl
    have en3:n3 = 1:=ho2.l.symm.trans rfl
    subst en en3
    simp only [Ending.returned.injEq,Value.tuple.injEq,Array.mk.injEq,List.cons.injEq,Value.agg.injEq,Value.slice.injEq] at he
    intro b hlt
    obtain ⟨⟨⟨e1,_⟩,⟨e2,_⟩,_⟩,_⟩:=he
    rw [e1,e2]
    exact ⟨apart_own ho2.o1 hlt,apart_own ho2.o hlt⟩
   exact ⟨_,rfl,_,_,rfl,rfl,⟨hBw.trans (hb.mono hBw.size),fun h => by rw [upd_ne x _ (by decide)]; exact f0 (by rw [← getD_set_ne true (show 4 ≠ 0 by decide)]; exact h),fun h => by rw [upd_ne x _ (by decide)]; exact f1 (by rw [← getD_set_ne true (show 4 ≠ 1 by decide)]; exact h),fun h => by rw [upd_ne x _ (by decide)]; exact f2 (by rw [← getD_set_ne true (show 4 ≠ 2 by decide)]; exact h),fun h h10 => by obtain ⟨g,hx,ho⟩:=f3 (by rw [← getD_set_ne true (show 4 ≠ 3 by decide)]; exact h) (by rw [← getD_set_ne true (show 4 ≠ 10 by decide)]; exact h10); exact ⟨g,by rw [upd_ne x _ (by decide)]; exact hx,own_below ho hb⟩,fun _ => ⟨A,c,A',c',upd_same _ _ _,hp,fun h9 b hx9 => by rw [upd_ne x _ (by decide)] at hx9; obtain ⟨b9,cs9,hz9,hl9,hx9',hk9,_⟩:=f9 (by rw [← getD_set_ne true (show 4 ≠ 9 by decide)]; exact h9); rw [hx9'] at hx9; injection hx9 with e1; injection e1 with e2; injection e2 with e3; subst e3; exact hap _ hk9.lt⟩,fun h => absurd (f5 (by rw [← getD_set_ne true (show 4 ≠ 5 by decide)]; exact h)).1 (by rw [hun]; decide),fun h => absurd (f6 (by rw [← getD_set_ne true (show 4 ≠ 6 by decide)]; exact h)).1 (by rw [hun]; decide),fun h => by rw [upd_ne x _ (by decide)]; exact f7 (by rw [← getD_set_ne true (show 4 ≠ 7 by decide)]; exact h),fun h => by rw [upd_ne x _ (by decide)]; exact f8 (by rw [← getD_set_ne true (show 4 ≠ 8 by decide)]; exact h),fun h => by obtain ⟨b9,cs9,hz9,hl9,hx9,hk9,h6⟩:=f9 (by rw [← getD_set_ne true (show 4 ≠ 9 by decide)]; exact h); exact ⟨b9,cs9,hz9,hl9,by rw [upd_ne x _ (by decide)]; exact hx9,hk9.below hb hk9.lt,fun h10 => by rw [upd_ne x _ (by decide)]; exact h6 (by rw [← getD_set_ne true (show 4 ≠ 10 by decide)]; exact h10)⟩,fun h => by rw [upd_ne x _ (by decide)]; exact f11 (by rw [← getD_set_ne true (show 4 ≠ 11 by decide)]; exact h),fun h => by rw [upd_ne x _ (by decide)]; exact f12 (by rw [← getD_set_ne true (show 4 ≠ 12 by decide)]; exact h)⟩⟩
  ·have d4:=getD_ft (haf _ rfl ⟨4,.data⟩ (by simp) rfl)
   obtain ⟨A,c,A',c',hx4,hp4,ha4⟩:=f4 d4
   have e59:b.eval (.tmp 59) = x 4:=by rw [hbe,eval_in _ _ _ 4 (by decide) rfl (by rw [hz0]; decide)]
   have t59:b.tmps[59]?.getD undef = x 4:=by have tv:=e59; simpa only [Act.eval,Array.getD_eq_getD_getElem?] using tv
   refine wpOp_run (v:=x 4) rfl rfl (by simp [execOp,go_sem,t59]) ⟨_,_,rfl,rfl,⟨hBw,fun h => by rw [upd_ne x _ (by decide)]; exact f0 (by rw [← getD_set_ne true (show 5 ≠ 0 by decide)]; exact h),fun h => by rw [upd_ne x _ (by decide)]; exact f1 (by rw [← getD_set_ne true (show 5 ≠ 1 by decide)]; exact h),fun h => by rw [upd_ne x _ (by decide)]; exact f2 (by rw [← getD_set_ne true (show 5 ≠ 2 by decide)]; exact h),fun h h10 => by obtain ⟨g,hx,ho⟩:=f3 (by rw [← getD_set_ne true (show 5 ≠ 3 by decide)]; exact h) (by rw [← getD_set_ne true (show 5 ≠ 10 by decide)]; exact h10); exact ⟨g,by rw [upd_ne x _ (by decide)]; exact hx,ho⟩,fun h => by obtain ⟨A,c,A',c',hx,hp,ha⟩:=f4 (by rw [← getD_set_ne true (show 5 ≠ 4 by decide)]; exact h); exact ⟨A,c,A',c',by rw [upd_ne x _ (by decide)]; exact hx,hp,fun h9 b hx9 => by rw [upd_ne x _ (by decide)] at hx9; exact ha (by rw [← getD_set_ne true (show 5 ≠ 9 by decide)]; exact h9) b hx9⟩,fun _ => ⟨getD_mono d4,by rw [upd_same,upd_ne x _ (by decide)]⟩,fun h => ⟨getD_mono (f6 (by rw [← getD_set_ne true (show 5 ≠ 6 by decide)]; exact h)).1,by rw [upd_ne x _ (by decide),upd_ne x _ (by decide)]; exact (f6 (by rw [← getD_set_ne true (show 5 ≠ 6 by decide)]; exact h)).2⟩,fun h => by rw [upd_ne x _ (by decide)]; exact f7 (by rw [← getD_set_ne true (show 5 ≠ 7 by decide)]; exact h),fun h => by rw [upd_ne x _ (by decide)]; exact f8 (by rw [← getD_set_ne true (show 5 ≠ 8 by decide)]; exact h),fun h => by obtain ⟨b9,cs9,hz9,hl9,hx9,hk9,h6⟩:=f9 (by rw [← getD_set_ne true (show 5 ≠ 9 by decide)]; exact h); exact ⟨b9,cs9,hz9,hl9,by rw [upd_ne x _ (by decide)]; exact hx9,hk9,fun h10 => by rw [upd_ne x _ (by decide)]; exact h6 (by rw [← getD_set_ne true (show 5 ≠ 10 by decide)]; exact h10)⟩,fun h => by rw [upd_ne x _ (by decide)]; exact f11 (by rw [← getD_set_ne true (show 5 ≠ 11 by decide)]; exact h),fun h => by rw [upd_ne x _ (by decide)]; exact f12 (by rw [← getD_set_ne true (show 5 ≠ 12 by decide)]; exact h)⟩⟩
  ·have d5:=getD_ft (haf _ rfl ⟨5,.data⟩ (by simp) rfl)
   obtain ⟨A,c,A',c',hx4,hp4,ha4⟩:=f4 (f5 d5).1
   have e54:b.eval (.tmp 54) = .tuple #[.agg #[.slice A 1 c,.slice A' 1 c',.int .i64 20,.int .i64 4],.int .i64 1,.int .i64 4]:=by rw [hbe,eval_in _ _ _ 5 (by decide) rfl (by rw [hz0]; decide)]; exact (f5 d5).2.trans hx4
   have t54:b.tmps[54]?.getD undef = .tuple #[.agg #[.slice A 1 c,.slice A' 1 c',.int .i64 20,.int .i64 4],.int .i64 1,.int .i64 4]:=by have tv:=e54; simpa only [Act.eval,Array.getD_eq_getD_getElem?] using tv
   have haf10:V.getD 10 true = true → V.getD 6 true = true:=fun h => getD_ft (hcl 10 _ rfl h ⟨6,.data⟩ (by simp) rfl)
   refine wpOp_run (v:=.agg #[.slice A 1 c,.slice A' 1 c',.int .i64 20,.int .i64 4]) rfl rfl (by simp [execOp,go_sem,t54]) ⟨_,_,rfl,rfl,⟨hBw,fun h => by rw [upd_ne x _ (by decide)]; exact f0 (by rw [← getD_set_ne true (show 6 ≠ 0 by decide)]; exact h),fun h => by rw [upd_ne x _ (by decide)]; exact f1 (by rw [← getD_set_ne true (show 6 ≠ 1 by decide)]; exact h),fun h => by rw [upd_ne x _ (by decide)]; exact f2 (by rw [← getD_set_ne true (show 6 ≠ 2 by decide)]; exact h),fun h h10 => by obtain ⟨g,hx,ho⟩:=f3 (by rw [← getD_set_ne true (show 6 ≠ 3 by decide)]; exact h) (by rw [← getD_set_ne true (show 6 ≠ 10 by decide)]; exact h10); exact ⟨g,by rw [upd_ne x _ (by decide)]; exact hx,ho⟩,fun h => by obtain ⟨A,c,A',c',hx,hp,ha⟩:=f4 (by rw [← getD_set_ne true (show 6 ≠ 4 by decide)]; exact h); exact ⟨A,c,A',c',by rw [upd_ne x _ (by decide)]; exact hx,hp,fun h9 b hx9 => by rw [upd_ne x _ (by decide)] at hx9; exact ha (by rw [← getD_set_ne true (show 6 ≠ 9 by decide)]; exact h9) b hx9⟩,fun h => ⟨getD_mono (f5 (by rw [← getD_set_ne true (show 6 ≠ 5 by decide)]; exact h)).1,by rw [upd_ne x _ (by decide),upd_ne x _ (by decide)]; exact (f5 (by rw [← getD_set_ne true (show 6 ≠ 5 by decide)]; exact h)).2⟩,fun _ => ⟨getD_mono (f5 d5).1,by rw [upd_same,upd_ne x _ (by decide),hx4]; rfl⟩,fun h => by rw [upd_ne x _ (by decide)]; exact f7 (by rw [← getD_set_ne true (show 6 ≠ 7 by decide)]; exact h),fun h => by rw [upd_ne x _ (by decide)]; exact f8 (by rw [← getD_set_ne true (show 6 ≠ 8 by decide)]; exact h),fun h => by obtain ⟨b9,cs9,hz9,hl9,hx9,hk9,h6⟩:=f9 (by rw [← getD_set_ne true (show 6 ≠ 9 by decide)]; exact h); exact ⟨b9,cs9,hz9,hl9,by rw [upd_ne x _ (by decide)]; exact hx9,hk9,fun h10 => by exact absurd (haf10 (by rw [← getD_set_ne true (show 6 ≠ 10 by decide)]; exact h10)) (by rw [hun]; decide)⟩,fun h => by rw [upd_ne x _ (by decide)]; exact f11 (by rw [← getD_set_ne true (show 6 ≠ 11 by decide)]; exact h),fun h => by rw [upd_ne x _ (by decide)]; exact f12 (by rw [← getD_set_ne true (show 6 ≠ 12 by decide)]; exact h)⟩⟩
  ·have d5:=getD_ft (haf _ rfl ⟨5,.data⟩ (by simp) rfl)
   obtain ⟨A,c,A',c',hx4,hp4,ha4⟩:=f4 (f5 d5).1
   have e54:b.eval (.tmp 54) = .tuple #[.agg #[.slice A 1 c,.slice A' 1 c',.int .i64 20,.int .i64 4],.int .i64 1,.int .i64 4]:=by rw [hbe,eval_in _ _ _ 5 (by decide) rfl (by rw [hz0]; decide)]; exact (f5 d5).2.trans hx4
   have t54:b.tmps[54]?.getD undef = .tuple #[.agg #[.slice A 1 c,.slice A' 1 c',.int .i64 20,.int .i64 4],.int .i64 1,.int .i64 4]:=by have tv:=e54; simpa only [Act.eval,Array.getD_eq_getD_getElem?] using tv
   refine wpOp_run (v:=.int .i64 1) rfl rfl (by simp [execOp,go_sem,t54]) ⟨_,_,rfl,rfl,⟨hBw,fun h => by rw [upd_ne x _ (by decide)]; exact f0 (by rw [← getD_set_ne true (show 7 ≠ 0 by decide)]; exact h),fun h => by rw [upd_ne x _ (by decide)]; exact f1 (by rw [← getD_set_ne true (show 7 ≠ 1 by decide)]; exact h),fun h => by rw [upd_ne x _ (by decide)]; exact f2 (by rw [← getD_set_ne true (show 7 ≠ 2 by decide)]; exact h),fun h h10 => by obtain ⟨g,hx,ho⟩:=f3 (by rw [← getD_set_ne true (show 7 ≠ 3 by decide)]; exact h) (by rw [← getD_set_ne true (show 7 ≠ 10 by decide)]; exact h10); exact ⟨g,by rw [upd_ne x _ (by decide)]; exact hx,ho⟩,fun h => by obtain ⟨A,c,A',c',hx,hp,ha⟩:=f4 (by rw [← getD_set_ne true (show 7 ≠ 4 by decide)]; exact h); exact ⟨A,c,A',c',by rw [upd_ne x _ (by decide)]; exact hx,hp,fun h9 b hx9 => by rw [upd_ne x _ (by decide)] at hx9; exact ha (by rw [← getD_set_ne true (show 7 ≠ 9 by decide)]; exact h9) b hx9⟩,fun h => ⟨getD_mono (f5 (by rw [← getD_set_ne true (show 7 ≠ 5 by decide)]; exact h)).1,by rw [upd_ne x _ (by decide),upd_ne x _ (by decide)]; exact (f5 (by rw [← getD_set_ne true (show 7 ≠ 5 by decide)]; exact h)).2⟩,fun h => ⟨getD_mono (f6 (by rw [← getD_set_ne true (show 7 ≠ 6 by decide)]; exact h)).1,by rw [upd_ne x _ (by decide),upd_ne x _ (by decide)]; exact (f6 (by rw [← getD_set_ne true (show 7 ≠ 6 by decide)]; exact h)).2⟩,fun _ => upd_same _ _ _,fun h => by rw [upd_ne x _ (by decide)]; exact f8 (by rw [← getD_set_ne true (show 7 ≠ 8 by decide)]; exact h),fun h => by obtain ⟨b9,cs9,hz9,hl9,hx9,hk9,h6⟩:=f9 (by rw [← getD_set_ne true (show 7 ≠ 9 by decide)]; exact h); exact ⟨b9,cs9,hz9,hl9,by rw [upd_ne x _ (by decide)]; exact hx9,hk9,fun h10 => by rw [upd_ne x _ (by decide)]; exact h6 (by rw [← getD_set_ne true (show 7 ≠ 10 by decide)]; exact h10)⟩,fun h => by rw [upd_ne x _ (by decide)]; exact f11 (by rw [← getD_set_ne true (show 7 ≠ 11 by decide)]; exact h),fun h => by rw [upd_ne x _ (by decide)]; exact f12 (by rw [← getD_set_ne true (show 7 ≠ 12 by decide)]; exact h)⟩⟩
  ·have d5:=getD_ft (haf _ rfl ⟨5,.data⟩ (by simp) rfl)
   obtain ⟨A,c,A',c',hx4,hp4,ha4⟩:=f4 (f5 d5).1
   have e54:b.eval (.tmp 54) = .tuple #[.agg #[.slice A 1 c,.slice A' 1 c',.int .i64 20,.int .i64 4],.int .i64 1,.int .i64 4]:=by rw [hbe,eval_in _ _ _ 5 (by decide) rfl (by rw [hz0]; decide)]; exact (f5 d5).2.trans hx4
   have t54:b.tmps[54]?.getD undef = .tuple #[.agg #[.slice A 1 c,.slice A' 1 c',.int .i64 20,.int .i64 4],.int .i64 1,.int .i64 4]:=by have tv:=e54; simpa only [Act.eval,Array.getD_eq_getD_getElem?] using tv
   refine wpOp_run (v:=.int .i64 4) rfl rfl (by simp [execOp,go_sem,t54]) ⟨_,_,rfl,rfl,⟨hBw,fun h => by rw [upd_ne x _ (by decide)]; exact f0 (by rw [← getD_set_ne true (show 8 ≠ 0 by decide)]; exact h),fun h => by rw [upd_ne x _ (by decide)]; exact f1 (by rw [← getD_set_ne true (show 8 ≠ 1 by decide)]; exact h),fun h => by rw [upd_ne x _ (by decide)]; exact f2 (by rw [← getD_set_ne true (show 8 ≠ 2 by decide)]; exact h),fun h h10 => by obtain ⟨g,hx,ho⟩:=f3 (by rw [← getD_set_ne true (show 8 ≠ 3 by decide)]; exact h) (by rw [← getD_set_ne true (show 8 ≠ 10 by decide)]; exact h10); exact ⟨g,by rw [upd_ne x _ (by decide)]; exact hx,ho⟩,fun h => by obtain ⟨A,c,A',c',hx,hp,ha⟩:=f4 (by rw [← getD_set_ne true (show 8 ≠ 4 by decide)]; exact h); exact ⟨A,c,A',c',by rw [upd_ne x _ (by decide)]; exact hx,hp,fun h9 b hx9 => by rw [upd_ne x _ (by decide)] at hx9; exact ha (by rw [← getD_set_ne true (show 8 ≠ 9 by decide)]; exact h9) b hx9⟩,fun h => ⟨getD_mono (f5 (by rw [← getD_set_ne true (show 8 ≠ 5 by decide)]; exact h)).1,by rw [upd_ne x _ (by decide),upd_ne x _ (by decide)]; exact (f5 (by rw [← getD_set_ne true (show 8 ≠ 5 by decide)]; exact h)).2⟩,fun h => ⟨getD_mono (f6 (by rw [← getD_set_ne true (show 8 ≠ 6 by decide)]; exact h)).1,by rw [upd_ne x _ (by decide),upd_ne x _ (by decide)]; exact (f6 (by rw [← getD_set_ne true (show 8 ≠ 6 by decide)]; exact h)).2⟩,fun h => by rw [upd_ne x _ (by decide)]; exact f7 (by rw [← getD_set_ne true (show 8 ≠ 7 by decide)]; exact h),fun _ => upd_same _ _ _,fun h => by obtain ⟨b9,cs9,hz9,hl9,hx9,hk9,h6⟩:=f9 (by rw [← getD_set_ne true (show 8 ≠ 9 by decide)]; exact h); exact ⟨b9,cs9,hz9,hl9,by rw [upd_ne x _ (by decide)]; exact hx9,hk9,fun h10 => by rw [upd_ne x _ (by decide)]; exact h6 (by rw [← getD_set_ne true (show 8 ≠ 10 by decide)]; exact h10)⟩,fun h => by rw [upd_ne x _ (by decide)]; exact f11 (by rw [← getD_set_ne true (show 8 ≠ 11 by decide)]; exact h),fun h => by rw [upd_ne x _ (by decide)]; exact f12 (by rw [← getD_set_ne true (show 8 ≠ 12 by decide)]; exact h)⟩⟩
  ·have hb:Below w'.heap.size w' (w'.alloc (.cells #[.slice none 0 0,.slice none 0 0,.int .i64 0,.int .i64 0] 25)):=by (repeat (first | exact Below.refl _ _ | refine Below.alloc ?_ (by first | omega | (simp; done) | (simp; omega)) _ | refine Below.setCell ?_ (by first | omega | (simp; done) | (simp; omega)) _ | refine Below.drew ?_))
   have h10:V.getD 10 true = false:=by
    cases h:V.getD 10 true with
    | false => rfl
    | true =>
     have:=getD_ft (hcl 10 _ rfl h ⟨9,.data⟩ (by simp) rfl)
     rw [hun] at this
     cases this
   refine wpOp_run (v:=.pointer (some ⟨w'.heap.size,0,none⟩)) (w':=w'.alloc (.cells #[.slice none 0 0,.slice none 0 0,.int .i64 0,.int .i64 0] 25)) rfl rfl (by simp [execOp,go_sem]) ⟨_,_,rfl,rfl,⟨hBw.trans (hb.mono hBw.size),fun h => by rw [upd_ne x _ (by decide)]; exact f0 (by rw [← getD_set_ne true (show 9 ≠ 0 by decide)]; exact h),fun h => by rw [upd_ne x _ (by decide)]; exact f1 (by rw [← getD_set_ne true (show 9 ≠ 1 by decide)]; exact h),fun h => by rw [upd_ne x _ (by decide)]; exact f2 (by rw [← getD_set_ne true (show 9 ≠ 2 by decide)]; exact h),fun h h10 => by obtain ⟨g,hx,ho⟩:=f3 (by rw [← getD_set_ne true (show 9 ≠ 3 by decide)]; exact h) (by rw [← getD_set_ne true (show 9 ≠ 10 by decide)]; exact h10); exact ⟨g,by rw [upd_ne x _ (by decide)]; exact hx,own_below ho hb⟩,fun h => by obtain ⟨A,c,A',c',hx,hp,ha⟩:=f4 (by rw [← getD_set_ne true (show 9 ≠ 4 by decide)]; exact h); exact ⟨A,c,A',c',by rw [upd_ne x _ (by decide)]; exact hx,hp.up hb,fun _ b hx9 => by rw [upd_same] at hx9; injection hx9 with e1; injection e1 with e2; injection e2 with e3; subst e3; exact hp.apart (Nat.le_refl _)⟩,fun h => ⟨getD_mono (f5 (by rw [← getD_set_ne true (show 9 ≠ 5 by decide)]; exact h)).1,by rw [upd_ne x _ (by decide),upd_ne x _ (by decide)]; exact (f5 (by rw [← getD_set_ne true (show 9 ≠ 5 by decide)]; exact h)).2⟩,fun h => ⟨getD_mono (f6 (by rw [← getD_set_ne true (show 9 ≠ 6 by decide)]; exact h)).1,by rw [upd_ne x _ (by decide),upd_ne x _ (by decide)]; exact (f6 (by rw [← getD_set_ne true (show 9 ≠ 6 by decide)]; exact h)).2⟩,fun h => by rw [upd_ne x _ (by decide)]; exact f7 (by rw [← getD_set_ne true (show 9 ≠ 7 by decide)]; exact h),fun h => by rw [upd_ne x _ (by decide)]; exact f8 (by rw [← getD_set_ne true (show 9 ≠ 8 by decide)]; exact h),fun _ => ⟨w'.heap.size,#[.slice none 0 0,.slice none 0 0,.int .i64 0,.int .i64 0],rfl,hBw.size,upd_same _ _ _,Blok.new _ _ _,fun h => by rw [getD_set_ne true (show 9 ≠ 10 by decide),h10] at h; cases h⟩,fun h => by rw [upd_ne x _ (by decide)]; exact f11 (by rw [← getD_set_ne true (show 9 ≠ 11 by decide)]; exact h),fun h => by rw [upd_ne x _ (by decide)]; exact f12 (by rw [← getD_set_ne true (show 9 ≠ 12 by decide)]; exact h)⟩⟩
  ·have d9:=getD_ft (haf _ rfl ⟨9,.data⟩ (by simp) rfl)
   have d6:=getD_ft (haf _ rfl ⟨6,.data⟩ (by simp) rfl)
   obtain ⟨b9,cs9,hz9,hl9,hx9,hk9,_⟩:=f9 d9
   obtain ⟨A,c,A',c',hx4,hp4,ha4⟩:=f4 (f6 d6).1
   have hx6:x 6 = .agg #[.slice A 1 c,.slice A' 1 c',.int .i64 20,.int .i64 4]:=by rw [(f6 d6).2,hx4]; rfl
   have e14:b.eval (.tmp 14) = .pointer (some ⟨b9,0,none⟩):=by rw [hbe,eval_in _ _ _ 9 (by decide) rfl (by rw [hz0]; decide)]; exact hx9
   have t14:b.tmps[14]?.getD undef = .pointer (some ⟨b9,0,none⟩):=by have tv:=e14; simpa only [Act.eval,Array.getD_eq_getD_getElem?] using tv
   have e60:b.eval (.tmp 60) = .agg #[.slice A 1 c,.slice A' 1 c',.int .i64 20,.int .i64 4]:=by rw [hbe,eval_in _ _ _ 6 (by decide) rfl (by rw [hz0]; decide)]; exact hx6
   have t60:b.tmps[60]?.getD undef = .agg #[.slice A 1 c,.slice A' 1 c',.int .i64 20,.int .i64 4]:=by have tv:=e60; simpa only [Act.eval,Array.getD_eq_getD_getElem?] using tv
   refine wpOp_of rfl ?_
   rw [if_pos (by simp [Region.wanted])]
   refine wp_store_mid 25 (.tmp 14) (.tmp 60) rfl b9 0 #[.slice A 1 c,.slice A' 1 c',.int .i64 20,.int .i64 4] e14 e60 ?_ (by kernel_rfl) (by simp [Value.oneCell']) ?_
   ·intro j hj
    rw [Nat.zero_add]
    refine ⟨?_,hk9.free j⟩
    rw [hk9.cell j]
    have:j < cs9.size:=by rw [hz9]; exact hj
    simp [this]
   ·refine ⟨_,_,rfl,rfl,⟨set_below b9 hl9 _ _ hBw,fun h => by rw [upd_ne x _ (by decide)]; exact f0 (by rw [← getD_set_ne true (show 10 ≠ 0 by decide)]; exact h),fun h => by rw [upd_ne x _ (by decide)]; exact f1 (by rw [← getD_set_ne true (show 10 ≠ 1 by decide)]; exact h),fun h => by rw [upd_ne x _ (by decide)]; exact f2 (by rw [← getD_set_ne true (show 10 ≠ 2 by decide)]; exact h),fun h h10 => absurd h10 (by simp [hsz]),fun h => by obtain ⟨A,c,A',c',hx,hp,ha⟩:=f4 (by rw [← getD_set_ne true (show 10 ≠ 4 by decide)]; exact h); exact ⟨A,c,A',c',by rw [upd_ne x _ (by decide)]; exact hx,hp.kept1 (grown_sets _ _ _) (ha d9 _ hx9),fun _ b hx9' => by rw [upd_ne x _ (by decide)] at hx9'; exact ha d9 b hx9'⟩,fun h => ⟨getD_mono (f5 (by rw [← getD_set_ne true (show 10 ≠ 5 by decide)]; exact h)).1,by rw [upd_ne x _ (by decide),upd_ne x _ (by decide)]; exact (f5 (by rw [← getD_set_ne true (show 10 ≠ 5 by decide)]; exact h)).2⟩,fun h => ⟨getD_mono (f6 (by rw [← getD_set_ne true (show 10 ≠ 6 by decide)]; exact h)).1,by rw [upd_ne x _ (by decide),upd_ne x _ (by decide)]; exact (f6 (by rw [← getD_set_ne true (show 10 ≠ 6 by decide)]; exact h)).2⟩,fun h => by rw [upd_ne x _ (by decide)]; exact f7 (by rw [← getD_set_ne true (show 10 ≠ 7 by decide)]; exact h),fun h => by rw [upd_ne x _ (by decide)]; exact f8 (by rw [← getD_set_ne true (show 10 ≠ 8 by decide)]; exact h),fun h => ⟨b9,#[.slice A 1 c,.slice A' 1 c',.int .i64 20,.int .i64 4],rfl,hl9,by rw [upd_ne x _ (by decide)]; exact hx9,set_whole hk9 (by rw [hz9]; rfl),fun _ => by rw [upd_ne x _ (by decide)]; exact hx6⟩,fun h => by rw [upd_ne x _ (by decide)]; exact f11 (by rw [← getD_set_ne true (show 10 ≠ 11 by decide)]; exact h),fun h => by rw [upd_ne x _ (by decide)]; exact f12 (by rw [← getD_set_ne true (show 10 ≠ 12 by decide)]; exact h)⟩⟩
  ·have d7:=getD_ft (haf _ rfl ⟨7,.data⟩ (by simp) rfl)
   have e61:b.eval (.tmp 61) = .int .i64 1:=by rw [hbe,eval_in _ _ _ 7 (by decide) rfl (by rw [hz0]; decide)]; exact f7 d7
   have t61:b.tmps[61]?.getD undef = .int .i64 1:=by have tv:=e61; simpa only [Act.eval,Array.getD_eq_getD_getElem?] using tv
   refine wpOp_run (v:=.int .i64 1) rfl rfl (by simp [execOp,go_sem,t61]) ⟨_,_,rfl,rfl,⟨hBw,fun h => by rw [upd_ne x _ (by decide)]; exact f0 (by rw [← getD_set_ne true (show 11 ≠ 0 by decide)]; exact h),fun h => by rw [upd_ne x _ (by decide)]; exact f1 (by rw [← getD_set_ne true (show 11 ≠ 1 by decide)]; exact h),fun h => by rw [upd_ne x _ (by decide)]; exact f2 (by rw [← getD_set_ne true (show 11 ≠ 2 by decide)]; exact h),fun h h10 => by obtain ⟨g,hx,ho⟩:=f3 (by rw [← getD_set_ne true (show 11 ≠ 3 by decide)]; exact h) (by rw [← getD_set_ne true (show 11 ≠ 10 by decide)]; exact h10); exact ⟨g,by rw [upd_ne x _ (by decide)]; exact hx,ho⟩,fun h => by obtain ⟨A,c,A',c',hx,hp,ha⟩:=f4 (by rw [← getD_set_ne true (show 11 ≠ 4 by decide)]; exact h); exact ⟨A,c,A',c',by rw [upd_ne x _ (by decide)]; exact hx,hp,fun h9 b hx9 => by rw [upd_ne x _ (by decide)] at hx9; exact ha (by rw [← getD_set_ne true (show 11 ≠ 9 by decide)]; exact h9) b hx9⟩,fun h => ⟨getD_mono (f5 (by rw [← getD_set_ne true (show 11 ≠ 5 by decide)]; exact h)).1,by rw [upd_ne x _ (by decide),upd_ne x _ (by decide)]; exact (f5 (by rw [← getD_set_ne true (show 11 ≠ 5 by decide)]; exact h)).2⟩,fun h => ⟨getD_mono (f6 (by rw [← getD_set_ne true (show 11 ≠ 6 by decide)]; exact h)).1,by rw [upd_ne x _ (by decide),upd_ne x _ (by decide)]; exact (f6 (by rw [← getD_set_ne true (show 11 ≠ 6 by decide)]; exact h)).2⟩,fun h => by rw [upd_ne x _ (by decide)]; exact f7 (by rw [← getD_set_ne true (show 11 ≠ 7 by decide)]; exact h),fun h => by rw [upd_ne x _ (by decide)]; exact f8 (by rw [← getD_set_ne true (show 11 ≠ 8 by decide)]; exact h),fun h => by obtain ⟨b9,cs9,hz9,hl9,hx9,hk9,h6⟩:=f9 (by rw [← getD_set_ne true (show 11 ≠ 9 by decide)]; exact h); exact ⟨b9,cs9,hz9,hl9,by rw [upd_ne x _ (by decide)]; exact hx9,hk9,fun h10 => by rw [upd_ne x _ (by decide)]; exact h6 (by rw [← getD_set_ne true (show 11 ≠ 10 by decide)]; exact h10)⟩,fun _ => upd_same _ _ _,fun h => by rw [upd_ne x _ (by decide)]; exact f12 (by rw [← getD_set_ne true (show 11 ≠ 12 by decide)]; exact h)⟩⟩
  ·have d8:=getD_ft (haf _ rfl ⟨8,.data⟩ (by simp) rfl)
   have e62:b.eval (.tmp 62) = .int .i64 4:=by rw [hbe,eval_in _ _ _ 8 (by decide) rfl (by rw [hz0]; decide)]; exact f8 d8
   have t62:b.tmps[62]?.getD undef = .int .i64 4:=by have tv:=e62; simpa only [Act.eval,Array.getD_eq_getD_getElem?] using tv
   refine wpOp_run (v:=.int .i64 4) rfl rfl (by simp [execOp,go_sem,t62]) ⟨_,_,rfl,rfl,⟨hBw,fun h => by rw [upd_ne x _ (by decide)]; exact f0 (by rw [← getD_set_ne true (show 12 ≠ 0 by decide)]; exact h),fun h => by rw [upd_ne x _ (by decide)]; exact f1 (by rw [← getD_set_ne true (show 12 ≠ 1 by decide)]; exact h),fun h => by rw [upd_ne x _ (by decide)]; exact f2 (by rw [← getD_set_ne true (show 12 ≠ 2 by decide)]; exact h),fun h h10 => by obtain ⟨g,hx,ho⟩:=f3 (by rw [← getD_set_ne true (show 12 ≠ 3 by decide)]; exact h) (by rw [← getD_set_ne true (show 12 ≠ 10 by decide)]; exact h10); exact ⟨g,by rw [upd_ne x _ (by decide)]; exact hx,ho⟩,fun h => by obtain ⟨A,c,A',c',hx,hp,ha⟩:=f4 (by rw [← getD_set_ne true (show 12 ≠ 4 by decide)]; exact h); exact ⟨A,c,A',c',by rw [upd_ne x _ (by decide)]; exact hx,hp,fun h9 b hx9 => by rw [upd_ne x _ (by decide)] at hx9; exact ha (by rw [← getD_set_ne true (show 12 ≠ 9 by decide)]; exact h9) b hx9⟩,fun h => ⟨getD_mono (f5 (by rw [← getD_set_ne true (show 12 ≠ 5 by decide)]; exact h)).1,by rw [upd_ne x _ (by decide),upd_ne x _ (by decide)]; exact (f5 (by rw [← getD_set_ne true (show 12 ≠ 5 by decide)]; exact h)).2⟩,fun h => ⟨getD_mono (f6 (by rw [← getD_set_ne true (show 12 ≠ 6 by decide)]; exact h)).1,by rw [upd_ne x _ (by decide),upd_ne x _ (by decide)]; exact (f6 (by rw [← getD_set_ne true (show 12 ≠ 6 by decide)]; exact h)).2⟩,fun h => by rw [upd_ne x _ (by decide)]; exact f7 (by rw [← getD_set_ne true (show 12 ≠ 7 by decide)]; exact h),fun h => by rw [upd_ne x _ (by decide)]; exact f8 (by rw [← getD_set_ne true (show 12 ≠ 8 by decide)]; exact h),fun h => by obtain ⟨b9,cs9,hz9,hl9,hx9,hk9,h6⟩:=f9 (by rw [← getD_set_ne true (show 12 ≠ 9 by decide)]; exact h); exact ⟨b9,cs9,hz9,hl9,by rw [upd_ne x _ (by decide)]; exact hx9,hk9,fun h10 => by rw [upd_ne x _ (by decide)]; exact h6 (by rw [← getD_set_ne true (show 12 ≠ 10 by decide)]; exact h10)⟩,fun h => by rw [upd_ne x _ (by decide)]; exact f11 (by rw [← getD_set_ne true (show 12 ≠ 11 by decide)]; exact h),fun _ => upd_same _ _ _⟩⟩
 intro V x w' hall hF
 obtain ⟨hb,f0,f1,f2,f3,f4,f5,f6,f7,f8,f9,f11,f12⟩:=hF
 obtain ⟨b9,cs9,hz9,hl9,hx9,hk9,hcs⟩:=f9 (hall 9 (by decide))
 obtain ⟨A6,c6,A7,c7,hx4,fs,_⟩:=f4 (hall 4 (by decide))
 have hx6:=(f6 (hall 6 (by decide))).2
 rw [hx4,hcs (hall 10 (by decide))] at hx6
 have hcs2:cs9 = #[.slice A6 1 c6,.slice A7 1 c7,.int .i64 20,.int .i64 4]:=by
  have:=hx6
  simp only [tpl] at this
  injection this
 subst hcs2
 have h11:=f11 (hall 11 (by decide))
 have h12:=f12 (hall 12 (by decide))
 clear f0 f1 f2 f3 f4 f5 f6 f7 f8 f9 f11 f12 hall hr0 hx4 hx6 hcs hz9
 subst ha0
 replace fp:=fp.up hb
 replace fq:=fq.up hb
 replace fg:=fg.up hb
 replace fr:=fr.up hb
 replace bp:=bp.below hb bp.lt
 replace bq:=bq.below hb bq.lt
 replace br:=br.below hb br.lt
 replace hB:=hB.trans (hb.mono hs)
 replace hs:=hB.size
 clear hb
 simp only [List.map_cons,List.map_nil,putAll,h11,h12,hx9]
 clear h11 h12 hx9
 go_simp
 obtain ⟨n_0,n_1,n_2,n_3,lt_n_⟩:=blok4 (show Blok _ _ _ #[.slice A3 1 c3,.slice A4 1 c4,.int .i64 20,.int .i64 4] from bq)
 obtain ⟨nf_0,nf_1,nf_2,nf_3⟩:=free4 bq
 go_wp2_with fail
 clear n_0 n_1 n_2 n_3 nf_0 nf_1 nf_2 nf_3 lt_n_
 refine (papply_any A3 1 c3 A4 1 c4 s08_q s08_z w' (by decide) (by decide) fq s08_rq).mono ?_
 rintro e w10 hret
 obtain ⟨A8,c8,A9,c9,rfl,_,hb⟩:=applyRet_is s08_q 1 20 4 1 1 hret s08_q7 (stepP_no s08_q7 (by decide)) rfl rfl rfl rfl
 clear hret
 replace fp:=fp.up hb
 replace fq:=fq.up hb
 replace fg:=fg.up hb
 replace fr:=fr.up hb
 replace fs:=fs.up hb
 replace bp:=bp.below hb bp.lt
 replace bq:=bq.below hb bq.lt
 replace br:=br.below hb br.lt
 replace hk9:=hk9.below hb hk9.lt
 replace hB:=hB.trans (hb.mono hs)
 replace hs:=hB.size
 clear hb
 go_upto_region 8 with fail
 have bg:=Blok.new w10 25 #[.slice A8 1 c8,.slice A9 1 c9,.int .i64 20,.int .i64 4]
 have hb:Below w10.heap.size w10 (w10.alloc (.cells #[.slice A8 1 c8,.slice A9 1 c9,.int .i64 20,.int .i64 4] 25)):=by (repeat (first | exact Below.refl _ _ | refine Below.alloc ?_ (by first | omega | (simp; done) | (simp; omega)) _ | refine Below.setCell ?_ (by first | omega | (simp; done) | (simp; omega)) _ | refine Below.drew ?_))
 replace fp:=fp.up hb
 replace fq:=fq.up hb
 replace fg:=fg.up hb
 replace fr:=fr.up hb
 replace fs:=fs.up hb
 replace bp:=bp.below hb bp.lt
 replace bq:=bq.below hb bq.lt
 replace br:=br.below hb br.lt
 replace hk9:=hk9.below hb hk9.lt
 replace hB:=hB.trans (hb.mono hs)
 replace hs:=hB.size
 clear hb
 generalize w10.alloc (.cells #[.slice A8 1 c8,.slice A9 1 c9,.int .i64 20,.int .i64 4] 25) = w10v at *
 generalize w10.heap.size = Bg at *
 clear bg
 have r_0:w10v.cell? ⟨Br,0,none⟩ = some (.slice Ar 1 cr):=br.cell 0
 have lt_r:=br.lt
 go_upto_region 10 with fail
 clear r_0 lt_r
 obtain ⟨ar,rfl,har,_,_,_,_,_,rc⟩:=fr.s1.lst.atCo fr.l1 (show 0 < 1 by decide)
 have rc:w10v.cell? ⟨ar.block,ar.off + 5,none⟩ = some (.int .i64 9):=by
  have h:=rc
  simp only [Nat.zero_mul,Addr.add_zero'] at h
  exact h
 have u_p3:w10v.cell? ⟨Bp,3,none⟩ = some (.int .i64 3):=bp.cell 3
 have u_q3:w10v.cell? ⟨Bq,3,none⟩ = some (.int .i64 4):=bq.cell 3
 have u_q2:w10v.cell? ⟨Bq,2,none⟩ = some (.int .i64 20):=bq.cell 2
 have lt_p:=bp.lt
 have lt_q:=bq.lt
 have lt_s:=hk9.lt
 have lt_r:=br.lt
 clear rc
 have q_u_p3:=fun d os => cell_regrown u_p3 d os
 have q_u_q3:=fun d os => cell_regrown u_q3 d os
 have q_u_q2:=fun d os => cell_regrown u_q2 d os
 try simp only [List.append]
 refine wp_region_segN 26 70 96 (by kernel_rfl) (by kernel_rfl) (by kernel_rfl) (by decide) ?_
 simp only [Nat.reduceAdd,List.take_succ_cons,List.take_zero]
 repeat (go_big_quiet_step ((fail)))
 refine wpQuiet_nil ?_
 intro _ hqw
 obtain ⟨pq,hqw⟩:=hqw
 subst hqw
 clear q_u_p3 q_u_q3 q_u_q2
 clear u_p3 u_q3 u_q2
 have hb:=below_regrown w10v pq.d pq.os
 replace fp:=fp.up hb
 replace fq:=fq.up hb
 replace fg:=fg.up hb
 replace fr:=fr.up hb
 replace fs:=fs.up hb
 replace bp:=bp.below hb bp.lt
 replace bq:=bq.below hb bq.lt
 replace br:=br.below hb br.lt
 replace hk9:=hk9.below hb hk9.lt
 replace hB:=hB.trans (hb.mono hs)
 replace hs:=hB.size
 clear hb
 generalize grow (redrawn w10v pq.d) pq.os = x1 at *
 clear lt_p lt_q lt_s lt_r
 refine wpAny_taken (p:=26) (v:=?_) rfl (by kernel_rfl) (by kernel_rfl) (by kernel_rfl) (fun _ _ _ h => h) (Or.inl ⟨by rfl,?_⟩) ?_
 rotate_left
 ·(intro w; go_simp; try with_reducible rfl)
 refine wpAny_forcedSN 2 27 67 96 (by kernel_rfl) (by kernel_rfl) (by decide) ?_
 intro N hN
 simp only [List.drop_succ_cons,List.drop_zero,List.take_succ_cons,List.take_zero]
 go_wp2_with fail
 have hO:=own_lit x1 0 3 1 1 #[.int .i64 7] (by omega) rfl (by simp [maxLen])
 have hb:Below x1.heap.size x1 (x1.alloc (.cells #[.int .i64 7] 3)):=by (repeat (first | exact Below.refl _ _ | refine Below.alloc ?_ (by first | omega | (simp; done) | (simp; omega)) _ | refine Below.setCell ?_ (by first | omega | (simp; done) | (simp; omega)) _ | refine Below.drew ?_))
 replace fp:=fp.up hb
 replace fq:=fq.up hb
 replace fg:=fg.up hb
 replace fr:=fr.up hb
 replace fs:=fs.up hb
 replace bp:=bp.below hb bp.lt
 replace bq:=bq.below hb bq.lt
 replace br:=br.below hb br.lt
 replace hk9:=hk9.below hb hk9.lt
 replace hB:=hB.trans (hb.mono hs)
 replace hs:=hB.size
 clear hb
 generalize x1.alloc (.cells #[.int .i64 7] 3) = x2 at *
 refine (ints_refl A5 (some ⟨x1.heap.size,0,none⟩) 1 c5 1 [7] x2 i7_len (by omega) fg (Sl.of_own hO)).mono ?_
 rintro e x3 ⟨rfl,hb⟩
 clear hO
 replace fp:=fp.up hb
 replace fq:=fq.up hb
 replace fg:=fg.up hb
 replace fr:=fr.up hb
 replace fs:=fs.up hb
 replace bp:=bp.below hb bp.lt
 replace bq:=bq.below hb bq.lt
 replace br:=br.below hb br.lt
 replace hk9:=hk9.below hb hk9.lt
 replace hB:=hB.trans (hb.mono hs)
 replace hs:=hB.size
 clear hb
 go_wp2_with fail
 refine hN _ _ ?_
 clear hN N
 have rc:x3.cell? ⟨ar.block,ar.off + 5,none⟩ = some (.int .i64 9):=by
  obtain ⟨ar',e,_,_,_,_,_,_,h⟩:=fr.s1.lst.atCo fr.l1 (show 0 < 1 by decide)
  injection e with e
  subst e
  simp only [Nat.zero_mul,Addr.add_zero'] at h
  exact h
 have u_q0:x3.cell? ⟨Bq,0,none⟩ = some (.slice A3 1 c3):=bq.cell 0
 have u_q1:x3.cell? ⟨Bq,1,none⟩ = some (.slice A4 1 c4):=bq.cell 1
 have u_r0:x3.cell? ⟨Br,0,none⟩ = some (.slice (some ar) 1 cr):=br.cell 0
 have lt_p:=bp.lt
 have lt_q:=bq.lt
 have lt_s:=hk9.lt
 have lt_r:=br.lt
 refine wpAny_segN 42 29 25 96 (by kernel_rfl) (by kernel_rfl) (by decide) ?_
 have q_u_q0:=fun d os => cell_regrown u_q0 d os
 have q_u_q1:=fun d os => cell_regrown u_q1 d os
 have q_u_r0:=fun d os => cell_regrown u_r0 d os
 have q_rc:=fun d os => cell_regrown rc d os
 simp only [Nat.reduceAdd,Nat.reduceSub,List.drop_succ_cons,List.drop_zero,List.take_succ_cons,List.take_zero]
 repeat (go_big_quiet_step ((fail)))
 refine wpQuiet_nil ?_
 intro _ hqw
 obtain ⟨pq,hqw⟩:=hqw
 subst hqw
 clear q_u_q0 q_u_q1 q_u_r0 q_rc
 clear u_q0 u_q1 u_r0 rc
 have hb:=below_regrown x3 pq.d pq.os
 replace fp:=fp.up hb
 replace fq:=fq.up hb
 replace fg:=fg.up hb
 replace fr:=fr.up hb
 replace fs:=fs.up hb
 replace bp:=bp.below hb bp.lt
 replace bq:=bq.below hb bq.lt
 replace br:=br.below hb br.lt
 replace hk9:=hk9.below hb hk9.lt
 replace hB:=hB.trans (hb.mono hs)
 replace hs:=hB.size
 clear hb
 generalize grow (redrawn x3 pq.d) pq.os = y1 at *
 clear lt_p lt_q lt_s lt_r
 have u_q0:y1.cell? ⟨Bq,0,none⟩ = some (.slice A3 1 c3):=bq.cell 0
 have u_q1:y1.cell? ⟨Bq,1,none⟩ = some (.slice A4 1 c4):=bq.cell 1
 have u_q2:y1.cell? ⟨Bq,2,none⟩ = some (.int .i64 20):=bq.cell 2
 have u_q3:y1.cell? ⟨Bq,3,none⟩ = some (.int .i64 4):=bq.cell 3
 have u_s0:y1.cell? ⟨b9,0,none⟩ = some (.slice A6 1 c6):=hk9.cell 0
 have u_s1:y1.cell? ⟨b9,1,none⟩ = some (.slice A7 1 c7):=hk9.cell 1
 have u_s2:y1.cell? ⟨b9,2,none⟩ = some (.int .i64 20):=hk9.cell 2
 have u_s3:y1.cell? ⟨b9,3,none⟩ = some (.int .i64 4):=hk9.cell 3
 have lt_p:=bp.lt
 have lt_q:=bq.lt
 have lt_s:=hk9.lt
 have lt_r:=br.lt
 refine wpAny_pairN 71 23 96 (by kernel_rfl) rfl rfl (by kernel_rfl) (by kernel_rfl) (by kernel_rfl) (by decide) ?_
 have q_u_q0:=fun d os => cell_regrown u_q0 d os
 have q_u_q1:=fun d os => cell_regrown u_q1 d os
 have q_u_q2:=fun d os => cell_regrown u_q2 d os
 have q_u_q3:=fun d os => cell_regrown u_q3 d os
 have q_u_s0:=fun d os => cell_regrown u_s0 d os
 have q_u_s1:=fun d os => cell_regrown u_s1 d os
 have q_u_s2:=fun d os => cell_regrown u_s2 d os
 have q_u_s3:=fun d os => cell_regrown u_s3 d os
 repeat (go_big_quiet_step ((fail)))
 refine wpQuiet_nil ?_
 intro _ hqw
 obtain ⟨pq,hqw⟩:=hqw
 subst hqw
 clear q_u_q0 q_u_q1 q_u_q2 q_u_q3 q_u_s0 q_u_s1 q_u_s2 q_u_s3
 clear u_q0 u_q1 u_q2 u_q3 u_s0 u_s1 u_s2 u_s3
 have hb:=below_regrown y1 pq.d pq.os
 replace fp:=fp.up hb
 replace fq:=fq.up hb
 replace fg:=fg.up hb
 replace fr:=fr.up hb
 replace fs:=fs.up hb
 replace bp:=bp.below hb bp.lt
 replace bq:=bq.below hb bq.lt
 replace br:=br.below hb br.lt
 replace hk9:=hk9.below hb hk9.lt
 replace hB:=hB.trans (hb.mono hs)
 replace hs:=hB.size
 clear hb
 generalize grow (redrawn y1 pq.d) pq.os = y2 at *
 clear lt_p lt_q lt_s lt_r
 have HQ:=Lib.hid (fun d os => fq.up (below_regrown y2 d os))
 have HS:=Lib.hid (fun d os => fs.up (below_regrown y2 d os))
 refine wpAny_segN 7 73 16 96 (by kernel_rfl) (by kernel_rfl) (by decide) ?_
 simp only [Nat.reduceAdd,Nat.reduceSub,List.drop_succ_cons,List.drop_zero,List.take_succ_cons,List.take_zero]
 repeat (go_big_quiet_step ((first
  | (go_at_call 14; with_reducible exact Calls.regrown_of (psame_q A6 c6 A7 c7 A3 c3 A4 c4 _ (HS.out _ _) (HQ.out _ _))))))
 clear HQ HS
 refine wpQuiet_nil ?_
 intro _ hqw
 obtain ⟨pq,hqw⟩:=hqw
 subst hqw
 have hb:=below_regrown y2 pq.d pq.os
 replace fp:=fp.up hb
 replace fq:=fq.up hb
 replace fg:=fg.up hb
 replace fr:=fr.up hb
 replace fs:=fs.up hb
 replace bp:=bp.below hb bp.lt
 replace bq:=bq.below hb bq.lt
 replace br:=br.below hb br.lt
 replace hk9:=hk9.below hb hk9.lt
 replace hB:=hB.trans (hb.mono hs)
 replace hs:=hB.size
 clear hb
 generalize grow (redrawn y2 pq.d) pq.os = x4 at *
 have u_p0:x4.cell? ⟨Bp,0,none⟩ = some (.slice A1 2 c1):=bp.cell 0
 have u_p1:x4.cell? ⟨Bp,1,none⟩ = some (.slice A2 1 c2):=bp.cell 1
 have u_p2:x4.cell? ⟨Bp,2,none⟩ = some (.int .i64 0):=bp.cell 2
 have u_p3:x4.cell? ⟨Bp,3,none⟩ = some (.int .i64 3):=bp.cell 3
 have lt_p:=bp.lt
 have lt_q:=bq.lt
 have lt_s:=hk9.lt
 have lt_r:=br.lt
 refine wpAny_forcedSN 10 80 6 96 (by kernel_rfl) (by kernel_rfl) (by decide) ?_
 intro N hN
 simp only [List.drop_succ_cons,List.drop_zero,List.take_succ_cons,List.take_zero]
 go_wp2_with fail
 clear u_p0 u_p1 u_p2 u_p3
 clear lt_p lt_q lt_s lt_r
 refine (plist_3 A1 c1 A2 c2 x4 fp).mono ?_
 rintro e x5 ⟨Al,cl,rfl,hb⟩
 replace fp:=fp.up hb
 replace fq:=fq.up hb
 replace fg:=fg.up hb
 replace fr:=fr.up hb
 replace fs:=fs.up hb
 replace bp:=bp.below hb bp.lt
 replace bq:=bq.below hb bq.lt
 replace br:=br.below hb br.lt
 replace hk9:=hk9.below hb hk9.lt
 replace hB:=hB.trans (hb.mono hs)
 replace hs:=hB.size
 clear hb
 have u_q0:x5.cell? ⟨Bq,0,none⟩ = some (.slice A3 1 c3):=bq.cell 0
 have u_q1:x5.cell? ⟨Bq,1,none⟩ = some (.slice A4 1 c4):=bq.cell 1
 have u_q2:x5.cell? ⟨Bq,2,none⟩ = some (.int .i64 20):=bq.cell 2
 have u_q3:x5.cell? ⟨Bq,3,none⟩ = some (.int .i64 4):=bq.cell 3
 have lt_p:=bp.lt
 have lt_q:=bq.lt
 have lt_s:=hk9.lt
 have lt_r:=br.lt
 go_wp2_with fail
 clear u_q0 u_q1 u_q2 u_q3
 clear lt_p lt_q lt_s lt_r
 refine (pright_q A3 c3 A4 c4 x5 fq).mono ?_
 rintro e x6 ⟨rfl,hb⟩
 replace fp:=fp.up hb
 replace fq:=fq.up hb
 replace fg:=fg.up hb
 replace fr:=fr.up hb
 replace fs:=fs.up hb
 replace bp:=bp.below hb bp.lt
 replace bq:=bq.below hb bq.lt
 replace br:=br.below hb br.lt
 replace hk9:=hk9.below hb hk9.lt
 replace hB:=hB.trans (hb.mono hs)
 replace hs:=hB.size
 clear hb
 go_wp2_with fail
 refine hN _ _ ?_
 clear hN N
 clear fp fg fr fs bp br hk9
 refine wpAny_all (rs:=[90,92]) (by kernel_rfl) (by decide) ?_
 intro i hi
 simp only [List.mem_cons,List.not_mem_nil,or_false] at hi
 rcases hi with rfl | rfl
 ·skip
  have u_q0:x6.cell? ⟨Bq,0,none⟩ = some (.slice A3 1 c3):=bq.cell 0
  have u_q1:x6.cell? ⟨Bq,1,none⟩ = some (.slice A4 1 c4):=bq.cell 1
  have u_q2:x6.cell? ⟨Bq,2,none⟩ = some (.int .i64 20):=bq.cell 2
  have u_q3:x6.cell? ⟨Bq,3,none⟩ = some (.int .i64 4):=bq.cell 3
  have lt_q:=bq.lt
  refine wpOp_list rfl ?_
  intro N hN
  go_wp2_with fail
  refine hN _ _ ?_
  clear hN N
  clear u_q0 u_q1 u_q2 u_q3 lt_q
  refine wpAny_all (rs:=[91,92]) (by kernel_rfl) (by decide) ?_
  intro i hi
  simp only [List.mem_cons,List.not_mem_nil,or_false] at hi
  rcases hi with rfl | rfl
  ·skip
   refine wpOp_list rfl ?_
   intro N hN
   go_wp2_with fail
   refine (pcopy_q A3 c3 A4 c4 x6 fq).mono ?_
   rintro e x7 ⟨Ay,cy,Az,cz,rfl,fy,hb⟩
   replace fq:=fq.up hb
   replace bq:=bq.below hb bq.lt
   replace hB:=hB.trans (hb.mono hs)
   replace hs:=hB.size
   clear hb
   go_wp2_with fail
   refine hN _ _ ?_
   clear hN N
   have u_q0:x7.cell? ⟨Bq,0,none⟩ = some (.slice A3 1 c3):=bq.cell 0
   have u_q1:x7.cell? ⟨Bq,1,none⟩ = some (.slice A4 1 c4):=bq.cell 1
   have u_q2:x7.cell? ⟨Bq,2,none⟩ = some (.int .i64 20):=bq.cell 2
   have u_q3:x7.cell? ⟨Bq,3,none⟩ = some (.int .i64 4):=bq.cell 3
   have lt_q:=bq.lt
   refine wpAny_of_idx [92,93,94,95] _ _ _ (by kernel_rfl) ?_
   simp only [pickL,List.flatMap_cons,List.flatMap_nil,List.drop_succ_cons,List.drop_zero,List.take_succ_cons,List.take_zero,List.append_nil,List.cons_append,List.nil_append]
   go_wp2_with fail
   clear u_q0 u_q1 u_q2 u_q3 lt_q
   refine (psame_q Ay cy Az cz A3 c3 A4 c4 x7 fy fq).mono ?_
   rintro e x8 ⟨rfl,hb⟩
   replace fq:=fq.up hb
   replace bq:=bq.below hb bq.lt
   replace hB:=hB.trans (hb.mono hs)
   replace hs:=hB.size
   clear hb
   go_wp2
   go_ret
   exact ⟨rfl,hB⟩
  ·skip
   have u_q0:x6.cell? ⟨Bq,0,none⟩ = some (.slice A3 1 c3):=bq.cell 0
   have u_q1:x6.cell? ⟨Bq,1,none⟩ = some (.slice A4 1 c4):=bq.cell 1
   have u_q2:x6.cell? ⟨Bq,2,none⟩ = some (.int .i64 20):=bq.cell 2
   have u_q3:x6.cell? ⟨Bq,3,none⟩ = some (.int .i64 4):=bq.cell 3
   have lt_q:=bq.lt
   refine wpOp_list rfl ?_
   intro N hN
   go_wp2_with fail
   refine hN _ _ ?_
   clear hN N
   clear u_q0 u_q1 u_q2 u_q3 lt_q
   refine wpAny_of_idx [91,93,94,95] _ _ _ (by kernel_rfl) ?_
   simp only [pickL,List.flatMap_cons,List.flatMap_nil,List.drop_succ_cons,List.drop_zero,List.take_succ_cons,List.take_zero,List.append_nil,List.cons_append,List.nil_append]
   go_wp2_with fail
   refine (pcopy_q A3 c3 A4 c4 x6 fq).mono ?_
   rintro e x7 ⟨Ay,cy,Az,cz,rfl,fy,hb⟩
   replace fq:=fq.up hb
   replace bq:=bq.below hb bq.lt
   replace hB:=hB.trans (hb.mono hs)
   replace hs:=hB.size
   clear hb
   go_wp2_with fail
   refine (psame_q Ay cy Az cz A3 c3 A4 c4 x7 fy fq).mono ?_
   rintro e x8 ⟨rfl,hb⟩
   replace fq:=fq.up hb
   replace bq:=bq.below hb bq.lt
   replace hB:=hB.trans (hb.mono hs)
   replace hs:=hB.size
   clear hb
   go_wp2
   go_ret
   exact ⟨rfl,hB⟩
 ·skip
  have u_q0:x6.cell? ⟨Bq,0,none⟩ = some (.slice A3 1 c3):=bq.cell 0
  have u_q1:x6.cell? ⟨Bq,1,none⟩ = some (.slice A4 1 c4):=bq.cell 1
  have u_q2:x6.cell? ⟨Bq,2,none⟩ = some (.int .i64 20):=bq.cell 2
  have u_q3:x6.cell? ⟨Bq,3,none⟩ = some (.int .i64 4):=bq.cell 3
  have lt_q:=bq.lt
  refine wpOp_list rfl ?_
  intro N hN
  go_wp2_with fail
  refine hN _ _ ?_
  clear hN N
  refine wpAny_of_idx [90,91,93,94,95] _ _ _ (by kernel_rfl) ?_
  simp only [pickL,List.flatMap_cons,List.flatMap_nil,List.drop_succ_cons,List.drop_zero,List.take_succ_cons,List.take_zero,List.append_nil,List.cons_append,List.nil_append]
  go_wp2_with fail
  clear u_q0 u_q1 u_q2 u_q3 lt_q
  refine (pcopy_q A3 c3 A4 c4 x6 fq).mono ?_
  rintro e x7 ⟨Ay,cy,Az,cz,rfl,fy,hb⟩
  replace fq:=fq.up hb
  replace bq:=bq.below hb bq.lt
  replace hB:=hB.trans (hb.mono hs)
  replace hs:=hB.size
  clear hb
  go_wp2_with fail
  refine (psame_q Ay cy Az cz A3 c3 A4 c4 x7 fy fq).mono ?_
  rintro e x8 ⟨rfl,hb⟩
  replace fq:=fq.up hb
  replace bq:=bq.below hb bq.lt
  replace hB:=hB.trans (hb.mono hs)
  replace hs:=hB.size
  clear hb
  go_wp2
  go_ret
  exact ⟨rfl,hB⟩
end Go.Proofs.YtolaabllhibkdaaGreat
