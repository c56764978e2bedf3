/- Contracts of plan.Same, stepContacts, stepRanges, step. They make new memory alone. -/
import Derived.Test.YtolaabllhibkdaaGreatGI
namespace Go.Proofs.YtolaabllhibkdaaGreat
open Go.ChangeShapes Go.WideShapes Go.ChangeAt Go.RowKit Go.Sort
set_option linter.unusedSimpArgs false
set_option linter.unusedVariables false
set_option maxHeartbeats 4000000 in
set_option maxRecDepth 100000 in
theorem psame_any (A1:Option Addr) (n1 c1:Nat) (A:Option Addr) (n c:Nat) (p:Pl) (B1:Option Addr) (m1 k1:Nat) (B:Option Addr) (m k:Nat) (q:Pl) (w:World) (h:PlAt w A1 n1 c1 A n c p) (h':PlAt w B1 m1 k1 B m k q) (b:Bool) (hb:samePB p q = b) :
  Calls Tryz.prog 14 #[.agg #[.slice A1 n1 c1,.slice A n c,.int .i64 p.clk,.int .i64 p.ver],.agg #[.slice B1 m1 k1,.slice B m k,.int .i64 q.clk,.int .i64 q.ver]] w fun e w' => e = .returned (.bool b) ∧ Below w.heap.size w w':=by
 have hB:Below w.heap.size w ((w.alloc (.cells #[.slice A1 n1 c1,.slice A n c,.int .i64 p.clk,.int .i64 p.ver] 25)).alloc (.cells #[.slice B1 m1 k1,.slice B m k,.int .i64 q.clk,.int .i64 q.ver] 25)):=by (repeat (first | exact Below.refl _ _ | refine Below.alloc ?_ (by first | omega | (simp; done) | (simp; omega)) _ | refine Below.setCell ?_ (by first | omega | (simp; done) | (simp; omega)) _ | refine Below.drew ?_))
 have hP:=(Blok.new w 25 #[.slice A1 n1 c1,.slice A n c,.int .i64 p.clk,.int .i64 p.ver]).alloc (.cells #[.slice B1 m1 k1,.slice B m k,.int .i64 q.clk,.int .i64 q.ver] 25)
 have hQ:=Blok.new (w.alloc (.cells #[.slice A1 n1 c1,.slice A n c,.int .i64 p.clk,.int .i64 p.ver] 25)) 25 #[.slice B1 m1 k1,.slice B m k,.int .i64 q.clk,.int .i64 q.ver]
 simp only [World.size_alloc] at hQ
 replace h:=h.up hB
 replace h':=h'.up hB
 have hs:=hB.size
 obtain ⟨x1,q1⟩:∃ x,decide (p.cs = q.cs) = x:=⟨_,rfl⟩
 obtain ⟨x2,q2⟩:∃ x,decide (p.rs = q.rs) = x:=⟨_,rfl⟩
 obtain ⟨x3,g3⟩:∃ x,(p.clk == q.clk) = x:=⟨_,rfl⟩
 obtain ⟨x4,g4⟩:∃ x,(p.ver == q.ver) = x:=⟨_,rfl⟩
 have hbb:b = (x1 && (x2 && (x3 && x4))):=by rw [← hb]; unfold samePB; rw [q1,q2,g3,g4]
 have Q1:=Lib.hid q1
 have Q2:=Lib.hid q2
 have HBB:=Lib.hid hbb
 clear q1 q2 hbb hb
 go_enter Tryz.func14,Tryz.ntmps14
 go_upto_region 1 with fail
 generalize (w.alloc (.cells #[.slice A1 n1 c1,.slice A n c,.int .i64 p.clk,.int .i64 p.ver] 25)).alloc (.cells #[.slice B1 m1 k1,.slice B m k,.int .i64 q.clk,.int .i64 q.ver] 25) = w0 at *
 have p0:w0.cell? ⟨w.heap.size,0,none⟩ = some (.slice A1 n1 c1):=hP.cell 0
 have u0:w0.cell? ⟨w.heap.size + 1,0,none⟩ = some (.slice B1 m1 k1):=hQ.cell 0
 have lt_p:=hP.lt
 have lt_q:=hQ.lt
 go_wp2_with fail
 clear p0 u0 lt_p lt_q
 refine (Kc.same_any A1 B1 n1 c1 m1 k1 p.cs q.cs w0 h.l1 h'.l1 (by have:=h.b1; omega) (by have:=h'.b1; omega) h.s1 h'.s1).mono ?_
 rintro e w1 ⟨rfl,hb⟩
 rw [Q1.out]
 replace h:=h.up hb
 replace h':=h'.up hb
 replace hP:=hP.below hb hP.lt
 replace hQ:=hQ.below hb hQ.lt
 replace hB:=hB.trans (hb.mono hs)
 replace hs:=hB.size
 clear hb
 cases x1
 ·go_wp2_with fail
  go_ret
  exact ⟨by rw [HBB.out]; rfl,hB⟩
 have p1:w1.cell? ⟨w.heap.size,1,none⟩ = some (.slice A n c):=hP.cell 1
 have u1:w1.cell? ⟨w.heap.size + 1,1,none⟩ = some (.slice B m k):=hQ.cell 1
 have lt_p:=hP.lt
 have lt_q:=hQ.lt
 go_wp2_with fail
 clear p1 u1 lt_p lt_q
 refine (Kr.same_any A B n c m k p.rs q.rs w1 h.l h'.l (by have:=h.b; omega) (by have:=h'.b; omega) h.s h'.s).mono ?_
 rintro e w2 ⟨rfl,hb⟩
 rw [Q2.out]
 replace h:=h.up hb
 replace h':=h'.up hb
 replace hP:=hP.below hb hP.lt
 replace hQ:=hQ.below hb hQ.lt
 replace hB:=hB.trans (hb.mono hs)
 replace hs:=hB.size
 clear hb
 cases x2
 ·go_wp2_with fail
  go_ret
  exact ⟨by rw [HBB.out]; rfl,hB⟩
 have p2:w2.cell? ⟨w.heap.size,2,none⟩ = some (.int .i64 p.clk):=hP.cell 2
 have u2:w2.cell? ⟨w.heap.size + 1,2,none⟩ = some (.int .i64 q.clk):=hQ.cell 2
 have p3:w2.cell? ⟨w.heap.size,3,none⟩ = some (.int .i64 p.ver):=hP.cell 3
 have u3:w2.cell? ⟨w.heap.size + 1,3,none⟩ = some (.int .i64 q.ver):=hQ.cell 3
 have lt_p:=hP.lt
 have lt_q:=hQ.lt
 cases x3 <;> cases x4
 all_goals
  go_wp2_with fail
  go_ret
  exact ⟨by rw [HBB.out]; rfl,hB⟩
set_option maxHeartbeats 2000000 in
set_option maxRecDepth 100000 in
theorem pstepC_any (A:Option Addr) (n c:Nat) (cs:List Co) (d:Dr) (w:World) (hd:cs.length = n) (hn:n ≤ 100000) (h:Sl w w.heap.size 6 A n c (flatCo cs)) (hr:Kc.rightC cs = true) (q:Int) (hq:stepCq cs d = q) (l:List Co) (hl:stepCl cs d = l) :
  Calls Tryz.prog 79 #[.slice A n c,.agg #[.int .i64 d.op,.int .i64 d.kd,.int .i64 d.id,.int .i64 d.fr,.int .i64 d.tn,.int .i64 d.st,.int .i64 d.en,.int .i64 d.rt,.int .i64 d.rf,.int .i64 d.rn,.int .i64 d.rs,.int .i64 d.re,.int .i64 d.ro]] w fun e w' => ∃ v,e = .returned (.tuple #[v,.int .i64 q]) ∧ w'.ownsRow w.heap.size 33 6 v l.length (flatCo l) ∧ Below w.heap.size w w':=by
 have hB:Below w.heap.size w (w.alloc (.cells #[.int .i64 d.op,.int .i64 d.kd,.int .i64 d.id,.int .i64 d.fr,.int .i64 d.tn,.int .i64 d.st,.int .i64 d.en,.int .i64 d.rt,.int .i64 d.rf,.int .i64 d.rn,.int .i64 d.rs,.int .i64 d.re,.int .i64 d.ro] 37)):=by (repeat (first | exact Below.refl _ _ | refine Below.alloc ?_ (by first | omega | (simp; done) | (simp; omega)) _ | refine Below.setCell ?_ (by first | omega | (simp; done) | (simp; omega)) _ | refine Below.drew ?_))
 have hX:=Blok.new w 37 #[.int .i64 d.op,.int .i64 d.kd,.int .i64 d.id,.int .i64 d.fr,.int .i64 d.tn,.int .i64 d.st,.int .i64 d.en,.int .i64 d.rt,.int .i64 d.rf,.int .i64 d.rn,.int .i64 d.rs,.int .i64 d.re,.int .i64 d.ro]
 have hs:=hB.size
 replace h:=h.up hB
 unfold stepCq at hq
 unfold stepCl at hl
 go_enter Tryz.func79,Tryz.ntmps79
 go_upto_region 1 with fail
 generalize w.alloc (.cells #[.int .i64 d.op,.int .i64 d.kd,.int .i64 d.id,.int .i64 d.fr,.int .i64 d.tn,.int .i64 d.st,.int .i64 d.en,.int .i64 d.rt,.int .i64 d.rf,.int .i64 d.rn,.int .i64 d.rs,.int .i64 d.re,.int .i64 d.ro] 37) = w0 at *
 obtain ⟨y0,y1,y2,y3,y4,y5,y6,y7,y8,y9,y10,y11,y12,lt_y⟩:=blok13 hX
 by_cases e1:d.op = 1
 ·rw [if_pos e1] at hq hl
  subst hq
  subst hl
  have g1:(d.op == 1) = true:=by simp [e1]
  clear e1
  go_wp2_with fail
  clear y0 y1 y2 y3 y4 y5 y6 y7 y8 y9 y10 y11 y12 lt_y
  refine (addT_any A n c cs (coD d) w0 hd (by omega) h hr _ rfl _ rfl).mono ?_
  rintro e w2 ⟨v,rfl,hv,hb⟩
  go_wp2_with fail
  go_ret2
  exact ⟨v,rfl,own_down hv hs,hB.trans (hb.mono hs)⟩
 rw [if_neg e1] at hq hl
 have g1:(d.op == 1) = false:=by simp [e1]
 clear e1
 by_cases e2:d.op = 2
 ·rw [if_pos e2] at hq hl
  subst hq
  subst hl
  have g2:(d.op == 2) = true:=by simp [e2]
  clear e2
  go_wp2_with fail
  clear y0 y1 y2 y3 y4 y5 y6 y7 y8 y9 y10 y11 y12 lt_y
  refine (delT_any A n c cs d.id w0 hd (by omega) h _ rfl _ rfl).mono ?_
  rintro e w2 ⟨v,rfl,hv,hb⟩
  go_wp2_with fail
  go_ret2
  exact ⟨v,rfl,own_down hv hs,hB.trans (hb.mono hs)⟩
 ·rw [if_neg e2] at hq hl
  subst hq
  subst hl
  have g2:(d.op == 2) = false:=by simp [e2]
  clear e2
  go_wp2_with fail
  clear y0 y1 y2 y3 y4 y5 y6 y7 y8 y9 y10 y11 y12 lt_y
  refine (chgT_any A n c cs d.id d.rt w0 hd (by omega) h _ rfl _ rfl).mono ?_
  rintro e w2 ⟨v,rfl,hv,hb⟩
  go_wp2_with fail
  go_ret2
  exact ⟨v,rfl,own_down hv hs,hB.trans (hb.mono hs)⟩
set_option maxHeartbeats 2000000 in
set_option maxRecDepth 100000 in
theorem pstepR_any (A:Option Addr) (n c:Nat) (cs:List Rg) (d:Dr) (w:World) (hd:cs.length = n) (hn:n ≤ 100000) (h:Sl w w.heap.size 5 A n c (flatRg cs)) (hr:Kr.rightB cs = true) (q:Int) (hq:stepRq cs d = q) (l:List Rg) (hl:stepRl cs d = l) :
  Calls Tryz.prog 80 #[.slice A n c,.agg #[.int .i64 d.op,.int .i64 d.kd,.int .i64 d.id,.int .i64 d.fr,.int .i64 d.tn,.int .i64 d.st,.int .i64 d.en,.int .i64 d.rt,.int .i64 d.rf,.int .i64 d.rn,.int .i64 d.rs,.int .i64 d.re,.int .i64 d.ro]] w fun e w' => ∃ v,e = .returned (.tuple #[v,.int .i64 q]) ∧ w'.ownsRow w.heap.size 35 5 v l.length (flatRg l) ∧ Below w.heap.size w w':=by
 have hB:Below w.heap.size w (w.alloc (.cells #[.int .i64 d.op,.int .i64 d.kd,.int .i64 d.id,.int .i64 d.fr,.int .i64 d.tn,.int .i64 d.st,.int .i64 d.en,.int .i64 d.rt,.int .i64 d.rf,.int .i64 d.rn,.int .i64 d.rs,.int .i64 d.re,.int .i64 d.ro] 37)):=by (repeat (first | exact Below.refl _ _ | refine Below.alloc ?_ (by first | omega | (simp; done) | (simp; omega)) _ | refine Below.setCell ?_ (by first | omega | (simp; done) | (simp; omega)) _ | refine Below.drew ?_))
 have hX:=Blok.new w 37 #[.int .i64 d.op,.int .i64 d.kd,.int .i64 d.id,.int .i64 d.fr,.int .i64 d.tn,.int .i64 d.st,.int .i64 d.en,.int .i64 d.rt,.int .i64 d.rf,.int .i64 d.rn,.int .i64 d.rs,.int .i64 d.re,.int .i64 d.ro]
 have hs:=hB.size
 replace h:=h.up hB
 unfold stepRq at hq
 unfold stepRl at hl
 go_enter Tryz.func80,Tryz.ntmps80
 go_upto_region 1 with fail
 generalize w.alloc (.cells #[.int .i64 d.op,.int .i64 d.kd,.int .i64 d.id,.int .i64 d.fr,.int .i64 d.tn,.int .i64 d.st,.int .i64 d.en,.int .i64 d.rt,.int .i64 d.rf,.int .i64 d.rn,.int .i64 d.rs,.int .i64 d.re,.int .i64 d.ro] 37) = w0 at *
 obtain ⟨y0,y1,y2,y3,y4,y5,y6,y7,y8,y9,y10,y11,y12,lt_y⟩:=blok13 hX
 by_cases e1:d.op = 1
 ·rw [if_pos e1] at hq hl
  subst hq
  subst hl
  have g1:(d.op == 1) = true:=by simp [e1]
  clear e1
  go_wp2_with fail
  clear y0 y1 y2 y3 y4 y5 y6 y7 y8 y9 y10 y11 y12 lt_y
  refine (addU_any A n c cs (rgD d) w0 hd (by omega) h hr _ rfl _ rfl).mono ?_
  rintro e w2 ⟨v,rfl,hv,hb⟩
  go_wp2_with fail
  go_ret2
  exact ⟨v,rfl,own_down hv hs,hB.trans (hb.mono hs)⟩
 rw [if_neg e1] at hq hl
 have g1:(d.op == 1) = false:=by simp [e1]
 clear e1
 by_cases e2:d.op = 2
 ·rw [if_pos e2] at hq hl
  subst hq
  subst hl
  have g2:(d.op == 2) = true:=by simp [e2]
  clear e2
  go_wp2_with fail
  clear y0 y1 y2 y3 y4 y5 y6 y7 y8 y9 y10 y11 y12 lt_y
  refine (delU_any A n c cs (rgD d) w0 hd (by omega) h _ rfl _ rfl).mono ?_
  rintro e w2 ⟨v,rfl,hv,hb⟩
  go_wp2_with fail
  go_ret2
  exact ⟨v,rfl,own_down hv hs,hB.trans (hb.mono hs)⟩
 ·rw [if_neg e2] at hq hl
  subst hq
  subst hl
  have g2:(d.op == 2) = false:=by simp [e2]
  clear e2
  go_wp2_with fail
  clear y0 y1 y2 y3 y4 y5 y6 y7 y8 y9 y10 y11 y12 lt_y
  refine (chgU_any A n c cs (rgD d) w0 hd (by omega) h _ rfl _ rfl).mono ?_
  rintro e w2 ⟨v,rfl,hv,hb⟩
  go_wp2_with fail
  go_ret2
  exact ⟨v,rfl,own_down hv hs,hB.trans (hb.mono hs)⟩
end Go.Proofs.YtolaabllhibkdaaGreat
