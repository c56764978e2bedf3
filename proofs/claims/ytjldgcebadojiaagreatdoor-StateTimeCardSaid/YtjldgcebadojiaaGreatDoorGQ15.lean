/- Several texts of mine in one: Plan3, St1. No condition. -/
import Derived.Test.YtjldgcebadojiaaGreatDoorGQ11
import Derived.Test.YtjldgcebadojiaaGreatDoorGQ24
namespace Go.Proofs.YtjldgcebadojiaaGreatDoor
open Go.ChangeShapes Go.WideShapes Go.ChangeAt Go.RowKit Go.Sort
set_option linter.unusedSimpArgs false
set_option linter.unusedVariables false
set_option maxHeartbeats 4000000 in
set_option maxRecDepth 100000 in
theorem psame_any (A1:Option Addr) (n1 c1:Nat) (A:Option Addr) (n c:Nat) (p:Pl) (B1:Option Addr) (m1 k1:Nat) (B:Option Addr) (m k:Nat) (q:Pl) (w:World) (h:PlAt w A1 n1 c1 A n c p) (h':PlAt w B1 m1 k1 B m k q) (b:Bool) (hb:samePB p q = b) :
  Calls Tryz.prog 23 #[.agg #[.slice A1 n1 c1,.slice A n c,.int .i64 p.clk,.int .i64 p.ver],.agg #[.slice B1 m1 k1,.slice B m k,.int .i64 q.clk,.int .i64 q.ver]] w fun e w' => e = .returned (.bool b) ∧ Below w.heap.size w w':=by
 have hB:Below w.heap.size w ((w.alloc (.cells #[.slice A1 n1 c1,.slice A n c,.int .i64 p.clk,.int .i64 p.ver] 25)).alloc (.cells #[.slice B1 m1 k1,.slice B m k,.int .i64 q.clk,.int .i64 q.ver] 25)):=by (repeat (first | exact Below.refl _ _ | refine Below.alloc ?_ (by first | omega | (simp; done) | (simp; omega)) _ | refine Below.setCell ?_ (by first | omega | (simp; done) | (simp; omega)) _ | refine Below.drew ?_))
 have hP:=(Blok.new w 25 #[.slice A1 n1 c1,.slice A n c,.int .i64 p.clk,.int .i64 p.ver]).alloc (.cells #[.slice B1 m1 k1,.slice B m k,.int .i64 q.clk,.int .i64 q.ver] 25)
 have hQ:=Blok.new (w.alloc (.cells #[.slice A1 n1 c1,.slice A n c,.int .i64 p.clk,.int .i64 p.ver] 25)) 25 #[.slice B1 m1 k1,.slice B m k,.int .i64 q.clk,.int .i64 q.ver]
 simp only [World.size_alloc] at hQ
 replace h:=h.up hB
 replace h':=h'.up hB
 have hs:=hB.size
 obtain ⟨x1,q1⟩:∃ x,decide (p.cs = q.cs) = x:=⟨_,rfl⟩
 obtain ⟨x2,q2⟩:∃ x,decide (p.rs = q.rs) = x:=⟨_,rfl⟩
 obtain ⟨x3,g3⟩:∃ x,(p.clk == q.clk) = x:=⟨_,rfl⟩
 obtain ⟨x4,g4⟩:∃ x,(p.ver == q.ver) = x:=⟨_,rfl⟩
 have hbb:b = (x1 && (x2 && (x3 && x4))):=by rw [← hb]; unfold samePB; rw [q1,q2,g3,g4]
 have Q1:=Lib.hid q1
 have Q2:=Lib.hid q2
 have HBB:=Lib.hid hbb
 clear q1 q2 hbb hb
 go_enter Tryz.func23,Tryz.ntmps23
 go_upto_region 1 with fail
 generalize (w.alloc (.cells #[.slice A1 n1 c1,.slice A n c,.int .i64 p.clk,.int .i64 p.ver] 25)).alloc (.cells #[.slice B1 m1 k1,.slice B m k,.int .i64 q.clk,.int .i64 q.ver] 25) = w0 at *
 have p0:w0.cell? ⟨w.heap.size,0,none⟩ = some (.slice A1 n1 c1):=hP.cell 0
 have u0:w0.cell? ⟨w.heap.size + 1,0,none⟩ = some (.slice B1 m1 k1):=hQ.cell 0
 have lt_p:=hP.lt
 have lt_q:=hQ.lt
 go_wp2_with fail
 clear p0 u0 lt_p lt_q
 refine (Kc.same_any A1 B1 n1 c1 m1 k1 p.cs q.cs w0 h.l1 h'.l1 (by have:=h.b1; omega) (by have:=h'.b1; omega) h.s1 h'.s1).mono ?_
 rintro e w1 ⟨rfl,hb⟩
 rw [Q1.out]
 replace h:=h.up hb
 replace h':=h'.up hb
 replace hP:=hP.below hb hP.lt
 replace hQ:=hQ.below hb hQ.lt
 replace hB:=hB.trans (hb.mono hs)
 replace hs:=hB.size
 clear hb
 cases x1
 ·go_wp2_with fail
  go_ret
  exact ⟨by rw [HBB.out]; rfl,hB⟩
 have p1:w1.cell? ⟨w.heap.size,1,none⟩ = some (.slice A n c):=hP.cell 1
 have u1:w1.cell? ⟨w.heap.size + 1,1,none⟩ = some (.slice B m k):=hQ.cell 1
 have lt_p:=hP.lt
 have lt_q:=hQ.lt
 go_wp2_with fail
 clear p1 u1 lt_p lt_q
 refine (Kr.same_any A B n c m k p.rs q.rs w1 h.l h'.l (by have:=h.b; omega) (by have:=h'.b; omega) h.s h'.s).mono ?_
 rintro e w2 ⟨rfl,hb⟩
 rw [Q2.out]
 replace h:=h.up hb
 replace h':=h'.up hb
 replace hP:=hP.below hb hP.lt
 replace hQ:=hQ.below hb hQ.lt
 replace hB:=hB.trans (hb.mono hs)
 replace hs:=hB.size
 clear hb
 cases x2
 ·go_wp2_with fail
  go_ret
  exact ⟨by rw [HBB.out]; rfl,hB⟩
 have p2:w2.cell? ⟨w.heap.size,2,none⟩ = some (.int .i64 p.clk):=hP.cell 2
 have u2:w2.cell? ⟨w.heap.size + 1,2,none⟩ = some (.int .i64 q.clk):=hQ.cell 2
 have p3:w2.cell? ⟨w.heap.size,3,none⟩ = some (.int .i64 p.ver):=hP.cell 3
 have u3:w2.cell? ⟨w.heap.size + 1,3,none⟩ = some (.int .i64 q.ver):=hQ.cell 3
 have lt_p:=hP.lt
 have lt_q:=hQ.lt
 cases x3 <;> cases x4
 all_goals
  go_wp2_with fail
  go_ret
  exact ⟨by rw [HBB.out]; rfl,hB⟩
set_option maxHeartbeats 2000000 in
set_option maxRecDepth 100000 in
theorem pstepC_any (A:Option Addr) (n c:Nat) (cs:List Co) (d:Dr) (w:World) (hd:cs.length = n) (hn:n ≤ 100000) (h:Sl w w.heap.size 6 A n c (flatCo cs)) (hr:Kc.rightC cs = true) (q:Int) (hq:stepCq cs d = q) (l:List Co) (hl:stepCl cs d = l) :
  Calls Tryz.prog 180 #[.slice A n c,.agg #[.int .i64 d.op,.int .i64 d.kd,.int .i64 d.id,.int .i64 d.fr,.int .i64 d.tn,.int .i64 d.st,.int .i64 d.en,.int .i64 d.rt,.int .i64 d.rf,.int .i64 d.rn,.int .i64 d.rs,.int .i64 d.re,.int .i64 d.ro]] w fun e w' => ∃ v,e = .returned (.tuple #[v,.int .i64 q]) ∧ w'.ownsRow w.heap.size 34 6 v l.length (flatCo l) ∧ Below w.heap.size w w':=by
 have hB:Below w.heap.size w (w.alloc (.cells #[.int .i64 d.op,.int .i64 d.kd,.int .i64 d.id,.int .i64 d.fr,.int .i64 d.tn,.int .i64 d.st,.int .i64 d.en,.int .i64 d.rt,.int .i64 d.rf,.int .i64 d.rn,.int .i64 d.rs,.int .i64 d.re,.int .i64 d.ro] 38)):=by (repeat (first | exact Below.refl _ _ | refine Below.alloc ?_ (by first | omega | (simp; done) | (simp; omega)) _ | refine Below.setCell ?_ (by first | omega | (simp; done) | (simp; omega)) _ | refine Below.drew ?_))
 have hX:=Blok.new w 38 #[.int .i64 d.op,.int .i64 d.kd,.int .i64 d.id,.int .i64 d.fr,.int .i64 d.tn,.int .i64 d.st,.int .i64 d.en,.int .i64 d.rt,.int .i64 d.rf,.int .i64 d.rn,.int .i64 d.rs,.int .i64 d.re,.int .i64 d.ro]
 have hs:=hB.size
 replace h:=h.up hB
 unfold stepCq at hq
 unfold stepCl at hl
 go_enter Tryz.func180,Tryz.ntmps180
 go_upto_region 1 with fail
 generalize w.alloc (.cells #[.int .i64 d.op,.int .i64 d.kd,.int .i64 d.id,.int .i64 d.fr,.int .i64 d.tn,.int .i64 d.st,.int .i64 d.en,.int .i64 d.rt,.int .i64 d.rf,.int .i64 d.rn,.int .i64 d.rs,.int .i64 d.re,.int .i64 d.ro] 38) = w0 at *
 obtain ⟨y0,y1,y2,y3,y4,y5,y6,y7,y8,y9,y10,y11,y12,lt_y⟩:=blok13 hX
 by_cases e1:d.op = 1
 ·rw [if_pos e1] at hq hl
  subst hq
  subst hl
  have g1:(d.op == 1) = true:=by simp [e1]
  clear e1
  go_wp2_with fail
  clear y0 y1 y2 y3 y4 y5 y6 y7 y8 y9 y10 y11 y12 lt_y
  refine (addT_any A n c cs (coD d) w0 hd (by omega) h hr _ rfl _ rfl).mono ?_
  rintro e w2 ⟨v,rfl,hv,hb⟩
  go_wp2_with fail
  go_ret2
  exact ⟨v,rfl,own_down hv hs,hB.trans (hb.mono hs)⟩
 rw [if_neg e1] at hq hl
 have g1:(d.op == 1) = false:=by simp [e1]
 clear e1
 by_cases e2:d.op = 2
 ·rw [if_pos e2] at hq hl
  subst hq
  subst hl
  have g2:(d.op == 2) = true:=by simp [e2]
  clear e2
  go_wp2_with fail
  clear y0 y1 y2 y3 y4 y5 y6 y7 y8 y9 y10 y11 y12 lt_y
  refine (delT_any A n c cs d.id w0 hd (by omega) h _ rfl _ rfl).mono ?_
  rintro e w2 ⟨v,rfl,hv,hb⟩
  go_wp2_with fail
  go_ret2
  exact ⟨v,rfl,own_down hv hs,hB.trans (hb.mono hs)⟩
 ·rw [if_neg e2] at hq hl
  subst hq
  subst hl
  have g2:(d.op == 2) = false:=by simp [e2]
  clear e2
  go_wp2_with fail
  clear y0 y1 y2 y3 y4 y5 y6 y7 y8 y9 y10 y11 y12 lt_y
  refine (chgT_any A n c cs d.id d.rt w0 hd (by omega) h _ rfl _ rfl).mono ?_
  rintro e w2 ⟨v,rfl,hv,hb⟩
  go_wp2_with fail
  go_ret2
  exact ⟨v,rfl,own_down hv hs,hB.trans (hb.mono hs)⟩
set_option maxHeartbeats 2000000 in
set_option maxRecDepth 100000 in
theorem pstepR_any (A:Option Addr) (n c:Nat) (cs:List Rg) (d:Dr) (w:World) (hd:cs.length = n) (hn:n ≤ 100000) (h:Sl w w.heap.size 5 A n c (flatRg cs)) (hr:Kr.rightB cs = true) (q:Int) (hq:stepRq cs d = q) (l:List Rg) (hl:stepRl cs d = l) :
  Calls Tryz.prog 181 #[.slice A n c,.agg #[.int .i64 d.op,.int .i64 d.kd,.int .i64 d.id,.int .i64 d.fr,.int .i64 d.tn,.int .i64 d.st,.int .i64 d.en,.int .i64 d.rt,.int .i64 d.rf,.int .i64 d.rn,.int .i64 d.rs,.int .i64 d.re,.int .i64 d.ro]] w fun e w' => ∃ v,e = .returned (.tuple #[v,.int .i64 q]) ∧ w'.ownsRow w.heap.size 36 5 v l.length (flatRg l) ∧ Below w.heap.size w w':=by
 have hB:Below w.heap.size w (w.alloc (.cells #[.int .i64 d.op,.int .i64 d.kd,.int .i64 d.id,.int .i64 d.fr,.int .i64 d.tn,.int .i64 d.st,.int .i64 d.en,.int .i64 d.rt,.int .i64 d.rf,.int .i64 d.rn,.int .i64 d.rs,.int .i64 d.re,.int .i64 d.ro] 38)):=by (repeat (first | exact Below.refl _ _ | refine Below.alloc ?_ (by first | omega | (simp; done) | (simp; omega)) _ | refine Below.setCell ?_ (by first | omega | (simp; done) | (simp; omega)) _ | refine Below.drew ?_))
 have hX:=Blok.new w 38 #[.int .i64 d.op,.int .i64 d.kd,.int .i64 d.id,.int .i64 d.fr,.int .i64 d.tn,.int .i64 d.st,.int .i64 d.en,.int .i64 d.rt,.int .i64 d.rf,.int .i64 d.rn,.int .i64 d.rs,.int .i64 d.re,.int .i64 d.ro]
 have hs:=hB.size
 replace h:=h.up hB
 unfold stepRq at hq
 unfold stepRl at hl
 go_enter Tryz.func181,Tryz.ntmps181
 go_upto_region 1 with fail
 generalize w.alloc (.cells #[.int .i64 d.op,.int .i64 d.kd,.int .i64 d.id,.int .i64 d.fr,.int .i64 d.tn,.int .i64 d.st,.int .i64 d.en,.int .i64 d.rt,.int .i64 d.rf,.int .i64 d.rn,.int .i64 d.rs,.int .i64 d.re,.int .i64 d.ro] 38) = w0 at *
 obtain ⟨y0,y1,y2,y3,y4,y5,y6,y7,y8,y9,y10,y11,y12,lt_y⟩:=blok13 hX
 by_cases e1:d.op = 1
 ·rw [if_pos e1] at hq hl
  subst hq
  subst hl
  have g1:(d.op == 1) = true:=by simp [e1]
  clear e1
  go_wp2_with fail
  clear y0 y1 y2 y3 y4 y5 y6 y7 y8 y9 y10 y11 y12 lt_y
  refine (addU_any A n c cs (rgD d) w0 hd (by omega) h hr _ rfl _ rfl).mono ?_
  rintro e w2 ⟨v,rfl,hv,hb⟩
  go_wp2_with fail
  go_ret2
  exact ⟨v,rfl,own_down hv hs,hB.trans (hb.mono hs)⟩
 rw [if_neg e1] at hq hl
 have g1:(d.op == 1) = false:=by simp [e1]
 clear e1
 by_cases e2:d.op = 2
 ·rw [if_pos e2] at hq hl
  subst hq
  subst hl
  have g2:(d.op == 2) = true:=by simp [e2]
  clear e2
  go_wp2_with fail
  clear y0 y1 y2 y3 y4 y5 y6 y7 y8 y9 y10 y11 y12 lt_y
  refine (delU_any A n c cs (rgD d) w0 hd (by omega) h _ rfl _ rfl).mono ?_
  rintro e w2 ⟨v,rfl,hv,hb⟩
  go_wp2_with fail
  go_ret2
  exact ⟨v,rfl,own_down hv hs,hB.trans (hb.mono hs)⟩
 ·rw [if_neg e2] at hq hl
  subst hq
  subst hl
  have g2:(d.op == 2) = false:=by simp [e2]
  clear e2
  go_wp2_with fail
  clear y0 y1 y2 y3 y4 y5 y6 y7 y8 y9 y10 y11 y12 lt_y
  refine (chgU_any A n c cs (rgD d) w0 hd (by omega) h _ rfl _ rfl).mono ?_
  rintro e w2 ⟨v,rfl,hv,hb⟩
  go_wp2_with fail
  go_ret2
  exact ⟨v,rfl,own_down hv hs,hB.trans (hb.mono hs)⟩
end Go.Proofs.YtjldgcebadojiaaGreatDoor
namespace Go.Proofs.YtjldgcebadojiaaGreatDoor
open Go.ChangeShapes Go.WideShapes Go.ChangeAt Go.RowKit Go.Sort
set_option linter.unusedSimpArgs false
set_option linter.unusedVariables false
structure St where
 p:Pl
 b:List Bk
theorem blok5 {w:World} {g:Nat} {t:TypeId} {a0 a1 a2 a3 a4:Value} (h:Blok w g t #[a0,a1,a2,a3,a4]):w.cell? ⟨g,0,none⟩ = some a0 ∧ w.cell? ⟨g,1,none⟩ = some a1 ∧ w.cell? ⟨g,2,none⟩ = some a2 ∧ w.cell? ⟨g,3,none⟩ = some a3 ∧ w.cell? ⟨g,4,none⟩ = some a4 ∧ g < w.heap.size:=⟨h.cell 0,h.cell 1,h.cell 2,h.cell 3,h.cell 4,h.lt⟩
theorem free5 {w:World} {g:Nat} {t:TypeId} {cs:Array Value} (h:Blok w g t cs):w.frozen? ⟨g,0,none⟩ = false ∧ w.frozen? ⟨g,1,none⟩ = false ∧ w.frozen? ⟨g,2,none⟩ = false ∧ w.frozen? ⟨g,3,none⟩ = false ∧ w.frozen? ⟨g,4,none⟩ = false:=⟨h.free 0,h.free 1,h.free 2,h.free 3,h.free 4⟩
def set5 (W:World) (b:Nat) (v0 v1 v2 v3 v4:Value):World:=((((W.setCell ⟨b,0,none⟩ v0).setCell ⟨b,1,none⟩ v1).setCell ⟨b,2,none⟩ v2).setCell ⟨b,3,none⟩ v3).setCell ⟨b,4,none⟩ v4
theorem ret5 {w W:World} {b:Nat} {T:TypeId} {z0 z1 z2 z3 z4:Value} (h:Blok W b T #[z0,z1,z2,z3,z4]) (hB:Below w.heap.size w W) (hle:w.heap.size ≤ b) (v0 v1 v2 v3 v4:Value):Blok (set5 W b v0 v1 v2 v3 v4) b T #[v0,v1,v2,v3,v4] ∧ Below w.heap.size w (set5 W b v0 v1 v2 v3 v4) ∧ W.grownBy (set5 W b v0 v1 v2 v3 v4) (some b):=by
 refine ⟨?_,((((hB.setCell (p:=⟨b,0,none⟩) hle v0).setCell (p:=⟨b,1,none⟩) hle v1).setCell (p:=⟨b,2,none⟩) hle v2).setCell (p:=⟨b,3,none⟩) hle v3).setCell (p:=⟨b,4,none⟩) hle v4,grown_trans (grown_trans (grown_trans (grown_trans (grown_set _ _ _) (grown_set _ _ _)) (grown_set _ _ _)) (grown_set _ _ _)) (grown_set _ _ _)⟩
 have h2:=((((h.set_ 0 v0).set_ 1 v1).set_ 2 v2).set_ 3 v3).set_ 4 v4
 simpa [set5] using h2
structure StAt (w:World) (A1:Option Addr) (n1 c1:Nat) (A:Option Addr) (n c:Nat) (clk ver:Int) (Ab:Option Addr) (nb cb:Nat) (s:St):Prop where
 pl:PlAt w A1 n1 c1 A n c s.p
 ck:s.p.clk = clk
 vr:s.p.ver = ver
 lb:s.b.length = nb
 bb:nb ≤ 100000
 sb:Sl w w.heap.size 4 Ab nb cb (flatBk s.b)
theorem StAt.up {w w':World} {A1:Option Addr} {n1 c1:Nat} {A:Option Addr} {n c:Nat} {clk ver:Int} {Ab:Option Addr} {nb cb:Nat} {s:St} (h:StAt w A1 n1 c1 A n c clk ver Ab nb cb s) (hb:Below w.heap.size w w'):StAt w' A1 n1 c1 A n c clk ver Ab nb cb s:=⟨h.pl.up hb,h.ck,h.vr,h.lb,h.bb,h.sb.up hb⟩
structure StOwn (w:World) (base:Nat) (A1:Option Addr) (n1 c1:Nat) (A:Option Addr) (n c:Nat) (clk ver:Int) (Ab:Option Addr) (nb cb:Nat) (s:St):Prop where
 pl:PlOwn w base A1 n1 c1 A n c s.p
 ck:s.p.clk = clk
 vr:s.p.ver = ver
 lb:s.b.length = nb
 bb:nb ≤ 100000
 ob:w.ownsRow base 50 4 (.slice Ab nb cb) nb (flatBk s.b)
section
variable {w w':World} {base b':Nat} {A1:Option Addr} {n1 c1:Nat} {A:Option Addr} {n c:Nat} {clk ver:Int} {Ab:Option Addr} {nb cb:Nat} {s:St}
theorem StOwn.at_ (h:StOwn w base A1 n1 c1 A n c clk ver Ab nb cb s):StAt w A1 n1 c1 A n c clk ver Ab nb cb s:=⟨h.pl.at_,h.ck,h.vr,h.lb,h.bb,Sl.of_own h.ob⟩
theorem StOwn.below (h:StOwn w base A1 n1 c1 A n c clk ver Ab nb cb s) (hb:Below w.heap.size w w'):StOwn w' base A1 n1 c1 A n c clk ver Ab nb cb s:=⟨h.pl.below hb,h.ck,h.vr,h.lb,h.bb,own_below h.ob hb⟩
theorem StOwn.down (h:StOwn w base A1 n1 c1 A n c clk ver Ab nb cb s) (hb:b' ≤ base):StOwn w b' A1 n1 c1 A n c clk ver Ab nb cb s:=⟨h.pl.down hb,h.ck,h.vr,h.lb,h.bb,own_down h.ob hb⟩
theorem StOwn.far {row:Option Nat} (h:StOwn w base A1 n1 c1 A n c clk ver Ab nb cb s) (hg:w.grownBy w' row) (hr:∀ q,row = some q → q < base):StOwn w' base A1 n1 c1 A n c clk ver Ab nb cb s:=⟨⟨h.pl.l1,h.pl.l,h.pl.b1,h.pl.b,own_far h.pl.o1 hg hr,own_far h.pl.o hg hr⟩,h.ck,h.vr,h.lb,h.bb,own_far h.ob hg hr⟩
end
theorem pcopy_to (A1:Option Addr) (n1 c1:Nat) (A:Option Addr) (n c:Nat) (p:Pl) (clk ver:Int) (w:World) (h:PlAt w A1 n1 c1 A n c p) (hc:p.clk = clk) (hv:p.ver = ver) :
  Calls Tryz.prog 101 #[.agg #[.slice A1 n1 c1,.slice A n c,.int .i64 clk,.int .i64 ver]] w fun e w' => ∃ A2 c2 A3 c3,e = .returned (.agg #[.slice A2 n1 c2,.slice A3 n c3,.int .i64 clk,.int .i64 ver]) ∧ PlOwn w' w.heap.size A2 n1 c2 A3 n c3 p ∧ Below w.heap.size w w':=by
 subst hc hv
 exact pcopy_any A1 n1 c1 A n c p w h
set_option maxHeartbeats 8000000 in
set_option maxRecDepth 100000 in
theorem sclone_any (A1:Option Addr) (n1 c1:Nat) (A:Option Addr) (n c:Nat) (clk ver:Int) (Ab:Option Addr) (nb cb:Nat) (s:St) (w:World) (h:StAt w A1 n1 c1 A n c clk ver Ab nb cb s) :
  Calls Tryz.prog 61 #[.agg #[.slice A1 n1 c1,.slice A n c,.int .i64 clk,.int .i64 ver,.slice Ab nb cb]] w fun e w' => ∃ A2 c2 A3 c3 A4 c4,e = .returned (.agg #[.slice A2 n1 c2,.slice A3 n c3,.int .i64 clk,.int .i64 ver,.slice A4 nb c4]) ∧ StOwn w' w.heap.size A2 n1 c2 A3 n c3 clk ver A4 nb c4 s ∧ Below w.heap.size w w':=by
 have hB:Below w.heap.size w ((w.alloc (.cells #[.slice A1 n1 c1,.slice A n c,.int .i64 clk,.int .i64 ver,.slice Ab nb cb] 28)).alloc (.cells #[.slice none 0 0,.slice none 0 0,.int .i64 0,.int .i64 0,.slice none 0 0] 28)):=by (repeat (first | exact Below.refl _ _ | refine Below.alloc ?_ (by first | omega | (simp; done) | (simp; omega)) _ | refine Below.setCell ?_ (by first | omega | (simp; done) | (simp; omega)) _ | refine Below.drew ?_))
 have hP:=(Blok.new w 28 #[.slice A1 n1 c1,.slice A n c,.int .i64 clk,.int .i64 ver,.slice Ab nb cb]).alloc (.cells #[.slice none 0 0,.slice none 0 0,.int .i64 0,.int .i64 0,.slice none 0 0] 28)
 have hX:=Blok.new (w.alloc (.cells #[.slice A1 n1 c1,.slice A n c,.int .i64 clk,.int .i64 ver,.slice Ab nb cb] 28)) 28 #[.slice none 0 0,.slice none 0 0,.int .i64 0,.int .i64 0,.slice none 0 0]
 simp only [World.size_alloc] at hX
 have hs:=hB.size
 replace h:=h.up hB
 go_enter Tryz.func61,Tryz.ntmps61
 go_upto_region 1 with fail
 generalize (w.alloc (.cells #[.slice A1 n1 c1,.slice A n c,.int .i64 clk,.int .i64 ver,.slice Ab nb cb] 28)).alloc (.cells #[.slice none 0 0,.slice none 0 0,.int .i64 0,.int .i64 0,.slice none 0 0] 28) = w0 at *
 have HC1:=Lib.hid (fun (w':World) (hb:Below w0.heap.size w0 w') => pcopy_to A1 n1 c1 A n c s.p clk ver w' (h.pl.up hb) h.ck h.vr)
 have HC2:=Lib.hid (fun (w':World) (hb:Below w0.heap.size w0 w') => cloneBk Ab nb cb s.b w' h.lb (by have:=h.bb; omega) (h.sb.up hb))
 have HPP:=Lib.hid (fun (w':World) (hb:Below w0.heap.size w0 w') => (hP.below hb hP.lt))
 have HXX:=Lib.hid (fun (w':World) (hb:Below w0.heap.size w0 w') => (hX.below hb hX.lt))
 obtain ⟨p0,p1,p2,p3,p4,lt_p⟩:=blok5 hP
 have hC:Below w0.heap.size w0 w0:=Below.refl _ _
 have HB:=Lib.hid hB
 have HH:=Lib.hid h
 have hxw:w.heap.size + 1 < w0.heap.size:=hX.lt
 clear hX hP h hB
 try simp only [List.append]
 go_region_law (first
  | (refine step_call rfl 101 #[.tmp 4] _ rfl #[.agg #[.slice A1 n1 c1,.slice A n c,.int .i64 clk,.int .i64 ver]] (by simp [Act.eval,Act.put]) Tryz.func101 rfl rfl ?_; refine Calls.mono (HC1.out _ (by first | exact hC | exact hC.drew)) ?_; rintro e x1 ⟨A2,c2,A3,c3,rfl,hv1,hbx⟩; refine ⟨_,rfl,?_⟩; (try (have hn:=own_below hv2 hbx; clear hv2; have hv2:=hn; clear hn)); have hC':Below w0.heap.size w0 x1:=Below.trans (by first | exact hC | exact hC.drew) (hbx.mono (by first | exact hC.size | exact Nat.le_refl _)); clear hC; have hC:=hC'; clear hC' hbx; have szx1:=hC.size; obtain ⟨q0,q1,q2,q3,q4,ql⟩:=blok5 (HPP.out _ hC); obtain ⟨qr0,qr1,qr2,qr3,qr4,qrl⟩:=blok5 (HXX.out _ hC); obtain ⟨qf0,qf1,qf2,qf3,qf4⟩:=free5 (HXX.out _ hC))
  | (refine step_call rfl 66 #[.tmp 7] _ rfl #[.slice Ab nb cb] (by simp [Act.eval,Act.put]) Tryz.func66 rfl rfl ?_; refine Calls.mono (HC2.out _ (by first | exact hC | exact hC.drew)) ?_; rintro e x2 ⟨v2,rfl,hv2,hbx⟩; obtain ⟨A4,c4,rfl⟩:=slice_of_own hv2; refine ⟨_,rfl,?_⟩; (try (have hn:=hv1.below hbx; clear hv1; have hv1:=hn; clear hn)); have hC':Below w0.heap.size w0 x2:=Below.trans (by first | exact hC | exact hC.drew) (hbx.mono (by first | exact hC.size | exact Nat.le_refl _)); clear hC; have hC:=hC'; clear hC' hbx; have szx2:=hC.size; obtain ⟨u0,u1,u2,u3,u4,ul⟩:=blok5 (HPP.out _ hC); obtain ⟨ur0,ur1,ur2,ur3,ur4,url⟩:=blok5 (HXX.out _ hC); obtain ⟨uf0,uf1,uf2,uf3,uf4⟩:=free5 (HXX.out _ hC)))
 all_goals
  have hX2:=HXX.out _ hC
  have hB2:=HB.out.trans (hC.mono hs)
  obtain ⟨hF,hWf,hgw⟩:=ret5 hX2 hB2 (Nat.le_succ _) (.slice A2 n1 c2) (.slice A3 n c3) (.int .i64 clk) (.int .i64 ver) (.slice A4 nb c4)
  have hO1:=StOwn.far (base:=w.heap.size + 2) ⟨hv1.down (by first | (have hd:w0.drew.heap.size = w0.heap.size:=rfl); omega),HH.out.ck,HH.out.vr,HH.out.lb,HH.out.bb,own_down hv2 (by first | (have hd:w0.drew.heap.size = w0.heap.size:=rfl); omega)⟩ hgw (fun q hq => by injection hq with hq; omega)
  have HO:=Lib.hid hO1
  clear hO1 hgw hX2 hB2 hv1 hv2 hC HC1 HC2 HPP HXX HB p0 p1 p2 p3 p4
  try clear q0 q1 q2 q3 q4 qr0 qr1 qr2 qr3 qr4 qf0 qf1 qf2 qf3 qf4
  try clear u0 u1 u2 u3 u4 ur0 ur1 ur2 ur3 ur4 uf0 uf1 uf2 uf3 uf4
  unfold set5 at hF hWf HO
  first
   | generalize ((((x2.setCell ⟨w.heap.size + 1,0,none⟩ (.slice A2 n1 c2)).setCell ⟨w.heap.size + 1,1,none⟩ (.slice A3 n c3)).setCell ⟨w.heap.size + 1,2,none⟩ (.int .i64 clk)).setCell ⟨w.heap.size + 1,3,none⟩ (.int .i64 ver)).setCell ⟨w.heap.size + 1,4,none⟩ (.slice A4 nb c4) = wf at *
   | generalize ((((x1.setCell ⟨w.heap.size + 1,0,none⟩ (.slice A2 n1 c2)).setCell ⟨w.heap.size + 1,1,none⟩ (.slice A3 n c3)).setCell ⟨w.heap.size + 1,2,none⟩ (.int .i64 clk)).setCell ⟨w.heap.size + 1,3,none⟩ (.int .i64 ver)).setCell ⟨w.heap.size + 1,4,none⟩ (.slice A4 nb c4) = wf at *
  obtain ⟨r0,r1,r2,r3,r4,hlF⟩:=blok5 hF
  go_wp2_with fail
  refine bodyPost_ret (v:=.agg #[.slice A2 n1 c2,.slice A3 n c3,.int .i64 clk,.int .i64 ver,.slice A4 nb c4]) (by simp [results,Tryz.results61,go_sem,r0,r1,r2,r3,r4,hlF]) rfl ?_
  exact ⟨A2,c2,A3,c3,A4,c4,rfl,HO.out.down (by omega),hWf⟩
end Go.Proofs.YtjldgcebadojiaaGreatDoor
