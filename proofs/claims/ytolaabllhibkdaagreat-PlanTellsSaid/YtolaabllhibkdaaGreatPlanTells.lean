/- What becomes of a plan, act by act, is the document's: PlanTells returns true. No condition. -/
import Derived.Test.YtolaabllhibkdaaGreatRows
import Derived.Test.YtolaabllhibkdaaGreatGL
import Derived.Test.YtolaabllhibkdaaGreatGB
import Derived.Test.YtolaabllhibkdaaGreatGF
import Derived.Test.YtolaabllhibkdaaGreatGK
import Derived.Test.YtolaabllhibkdaaGreatRef08
import Derived.Test.YtolaabllhibkdaaGreatRef08e
import Derived.Test.YtolaabllhibkdaaGreatRef08f
import Derived.Test.YtolaabllhibkdaaGreatRef08g
import Derived.Test.YtolaabllhibkdaaGreatRef05s
import Derived.Test.YtolaabllhibkdaaGreatGC
import Derived.Deep.CutBlock
import Derived.Deep.DeepCutAuto
namespace Go.Proofs.YtolaabllhibkdaaGreat
open Go.ChangeShapes Go.WideShapes Go.ChangeAt Go.RowKit Go.Sort
set_option linter.unusedSimpArgs false
set_option linter.unusedVariables false
/-- The value is a row of these directives. -/
def DrL (w:World) (v:Value) (M:List Dr):Prop:=∃ A k c,v = .slice A k c ∧ M.length = k ∧ Sl w w.heap.size 13 A k c (flatDr M)
theorem DrL.below {w w':World} {v:Value} {M:List Dr} (h:DrL w v M) (hb:Below w.heap.size w w'):DrL w' v M:=by
 obtain ⟨A,k,c,e,hk,hs⟩:=h
 exact ⟨A,k,c,e,hk,hs.up hb⟩
theorem DrL.of_own {w:World} {base:Nat} {v:Value} {n:Nat} {M:List Dr} (h:w.ownsRow base 37 13 v n (flatDr M)) (hn:M.length = n):DrL w v M:=by
 obtain ⟨A,c,rfl⟩:=slice_of_own h
 exact ⟨A,_,c,rfl,hn,Sl.of_own h⟩
theorem dsameV {w:World} {u v:Value} {M:List Dr} (hu:DrL w u M) (hv:DrL w v M) (hM:M.length ≤ 1000000):Calls Tryz.prog 19 #[u,v] w fun e w' => e = .returned (.bool true) ∧ Below w.heap.size w w':=by
 obtain ⟨A,k,c,rfl,hk,hs⟩:=hu
 obtain ⟨A',k',c',rfl,hk',hs'⟩:=hv
 have:=rsame5_any A A' k c k' c' M M w hk hk' (by omega) hs hs'
 rw [decide_eq_true rfl] at this
 exact this
/-- The value is a plan's struct. -/
def PlW (w:World) (v:Value) (p:Pl):Prop:=∃ A n c A' n' c',v = .agg #[.slice A n c,.slice A' n' c',.int .i64 p.clk,.int .i64 p.ver] ∧ PlAt w A n c A' n' c' p
theorem PlW.below {w w':World} {v:Value} {p:Pl} (h:PlW w v p) (hb:Below w.heap.size w w'):PlW w' v p:=by
 obtain ⟨A,n,c,A',n',c',e,hs⟩:=h
 exact ⟨A,n,c,A',n',c',e,hs.up hb⟩
theorem rsameW {w:World} {u v:Value} {p q:Pl} (hu:PlW w u p) (hv:PlW w v q) (r:Bool) (hr:samePB p q = r):Calls Tryz.prog 15 #[u,v] w fun e w' => e = .returned (.bool r) ∧ Below w.heap.size w w':=by
 obtain ⟨A,n,c,A',n',c',rfl,hs⟩:=hu
 obtain ⟨B,m,k,B',m',k',rfl,ht⟩:=hv
 exact rpsame_any A n c A' n' c' p B m k B' m' k' q w hs ht r hr
/-- The value is a row of these numbers, of the call's own. -/
def GoV (w:World) (base:Nat) (gs:List Int) (v:Value):Prop:=∃ A n c,v = .slice A n c ∧ gs.length = n ∧ w.ownsRow base 3 1 (.slice A n c) n (gs.map (Value.int .i64))
theorem GoV.below {w w':World} {base:Nat} {gs:List Int} {v:Value} (h:GoV w base gs v) (hb:Below w.heap.size w w'):GoV w' base gs v:=by
 obtain ⟨A,n,c,e,hl,ho⟩:=h
 exact ⟨A,n,c,e,hl,own_below ho hb⟩
theorem GoV.far {w w':World} {base b:Nat} {gs:List Int} {v:Value} (h:GoV w base gs v) (hg:w.grownBy w' (some b)) (hn:NB b v):GoV w' base gs v:=by
 obtain ⟨A,n,c,e,hl,ho⟩:=h
 exact ⟨A,n,c,e,hl,own_other ho hg (by rw [← e]; exact hn)⟩
theorem GoV.nb {w:World} {base:Nat} {gs:List Int} {v:Value} (h:GoV w base gs v):NB w.heap.size v:=by
 obtain ⟨A,n,c,e,hl,ho⟩:=h
 rw [e]
 exact fun g hg => Nat.ne_of_lt (ho.lt g hg).2
theorem PlV.seven3 {w:World} {base:Nat} {p:Pl} {u v g y g':Value} {q q':Value} (e5:u = .tuple #[v,g,q]) (e7:u = .tuple #[y,g',q']) (h:PlV w base p v):PlV w base p y:=by
 rw [e5] at e7
 injection e7 with e7
 injection e7 with e7
 injection e7 with e7 _
 subst e7
 exact h
theorem GoV.seven3 {w:World} {base:Nat} {gs:List Int} {u v g y g':Value} {q q':Value} (e5:u = .tuple #[v,g,q]) (e7:u = .tuple #[y,g',q']) (h:GoV w base gs g):GoV w base gs g':=by
 rw [e5] at e7
 injection e7 with e7
 injection e7 with e7
 injection e7 with _ e7
 injection e7 with e7 _
 subst e7
 exact h
theorem goN_own {w:World} {base b:Nat} {p:Pl} {gs:List Int} {A:Option Addr} {n c:Nat} {A':Option Addr} {n' c':Nat} {A9:Option Addr} {n9 c9:Nat} {v g y z q q':Value} (hb:b < base) (ho:PlOwn w base A n c A' n' c' p) (hg:w.ownsRow base 3 1 (.slice A9 n9 c9) n9 (gs.map (Value.int .i64))) (e:Value.tuple #[.agg #[.slice A n c,.slice A' n' c',y,z],.slice A9 n9 c9,q] = .tuple #[v,g,q']):PlN b v ∧ NB b g:=by
 injection e with e
 injection e with e
 injection e with e1 e
 injection e with e2 _
 refine ⟨?_,?_⟩
 ·intro B m k B' m' k' y' z' e'
  rw [← e1] at e'
  injection e' with e'
  injection e' with e'
  injection e' with e1 e'
  injection e' with e2 _
  rw [← e1,← e2]
  exact ⟨fun g hg => by have:=(ho.o1.lt g hg).1; omega,fun g hg => by have:=(ho.o.lt g hg).1; omega⟩
 ·rw [← e2]
  exact fun q hq => by have:=(hg.lt q hq).1; omega
def GotA (w:World) (base b:Nat) (p:Pl) (q:Int) (s:Value):Prop:=∃ v,s = .tuple #[v,.int .i64 q] ∧ PlV w base p v ∧ PlN b v
theorem GotA.of {w:World} {base base' b:Nat} {p:Pl} {q:Int} {A:Option Addr} {n c:Nat} {A':Option Addr} {n' c':Nat} (hb:b < base) (hbb:base' ≤ base) (ho:PlOwn w base A n c A' n' c' p):GotA w base' b p q (.tuple #[.agg #[.slice A n c,.slice A' n' c',.int .i64 p.clk,.int .i64 p.ver],.int .i64 q]):=
 ⟨.agg #[.slice A n c,.slice A' n' c',.int .i64 p.clk,.int .i64 p.ver],rfl,⟨A,n,c,A',n',c',rfl,ho.down hbb⟩,PlN.of_own (q:=q) hb ho rfl⟩
theorem GotA.below {w w':World} {base b:Nat} {p:Pl} {q:Int} {s:Value} (h:GotA w base b p q s) (hb:Below w.heap.size w w'):GotA w' base b p q s:=by
 obtain ⟨v,e,hv,hn⟩:=h
 exact ⟨v,e,hv.below hb,hn⟩
theorem GotA.far {w w':World} {base b:Nat} {p:Pl} {q:Int} {s:Value} (h:GotA w base b p q s) (hg:w.grownBy w' (some b)):GotA w' base b p q s:=by
 obtain ⟨v,e,hv,hn⟩:=h
 exact ⟨v,e,hv.far hg hn,hn⟩
def TupA (q:Int) (s t:Value):Prop:=s = .tuple #[t,.int .i64 q]
def StoA (w:World) (b:Nat) (s:Value):Prop:=∃ cs,cs.size = 4 ∧ s = .agg cs ∧ Blok w b 25 cs
theorem StoA.below {w w':World} {b:Nat} {s:Value} (h:StoA w b s) (hb:Below w.heap.size w w'):StoA w' b s:=by
 obtain ⟨cs,h1,h2,h3⟩:=h
 exact ⟨cs,h1,h2,h3.below hb h3.lt⟩
def GotB (w:World) (base:Nat) (p:Pl) (gs:List Int) (q:Int) (s:Value):Prop:=∃ v g,s = .tuple #[v,g,.int .i64 q] ∧ PlV w base p v ∧ GoV w base gs g
theorem GotB.of {w:World} {base base':Nat} {p:Pl} {gs:List Int} {q:Int} {A:Option Addr} {n c:Nat} {A':Option Addr} {n' c':Nat} {A9:Option Addr} {n9 c9:Nat} (hbb:base' ≤ base) (ho:PlOwn w base A n c A' n' c' p) (hl:gs.length = n9) (hg:w.ownsRow base 3 1 (.slice A9 n9 c9) n9 (gs.map (Value.int .i64))):GotB w base' p gs q (.tuple #[.agg #[.slice A n c,.slice A' n' c',.int .i64 p.clk,.int .i64 p.ver],.slice A9 n9 c9,.int .i64 q]):=
 ⟨.agg #[.slice A n c,.slice A' n' c',.int .i64 p.clk,.int .i64 p.ver],.slice A9 n9 c9,rfl,⟨A,n,c,A',n',c',rfl,ho.down hbb⟩,⟨A9,n9,c9,rfl,hl,own_down hg hbb⟩⟩
theorem GotB.below {w w':World} {base:Nat} {p:Pl} {gs:List Int} {q:Int} {s:Value} (h:GotB w base p gs q s) (hb:Below w.heap.size w w'):GotB w' base p gs q s:=by
 obtain ⟨v,g,e,hv,hg⟩:=h
 exact ⟨v,g,e,hv.below hb,hg.below hb⟩
def TupB (q:Int) (s t:Value):Prop:=∃ g,s = .tuple #[t,g,.int .i64 q]
def TupC (q:Int) (s t:Value):Prop:=∃ v,s = .tuple #[v,t,.int .i64 q]
def VarB (w:World) (base:Nat) (q:Int) (up:Bool) (s t:Value):Prop:=∃ b,base ≤ b ∧ s = .pointer (some ⟨b,0,none⟩) ∧ (∃ cs:Array Value,cs.size = 4 ∧ Blok w b 25 cs) ∧ (up = true → ∀ v g,t = .tuple #[v,g,.int .i64 q] → PlN b v ∧ NB b g)
theorem VarB.below {w w':World} {base:Nat} {q:Int} {up:Bool} {s t:Value} (h:VarB w base q up s t) (hb:Below w.heap.size w w'):VarB w' base q up s t:=by
 obtain ⟨b,h1,h2,⟨cs,h3,h4⟩,h5⟩:=h
 exact ⟨b,h1,h2,⟨cs,h3,h4.below hb h4.lt⟩,h5⟩
theorem VarB.got {w w':World} {base:Nat} {q:Int} {up up':Bool} {s t:Value} {p:Pl} {gs:List Int} {A:Option Addr} {n c:Nat} {A':Option Addr} {n' c':Nat} {A9:Option Addr} {n9 c9:Nat} (h:VarB w base q up s t) (hb:Below w.heap.size w w') (ho:PlOwn w' w.heap.size A n c A' n' c' p) (hg:w'.ownsRow w.heap.size 3 1 (.slice A9 n9 c9) n9 (gs.map (Value.int .i64))):VarB w' base q up' s (.tuple #[.agg #[.slice A n c,.slice A' n' c',.int .i64 p.clk,.int .i64 p.ver],.slice A9 n9 c9,.int .i64 q]):=by
 obtain ⟨b,h1,h2,⟨cs,h3,h4⟩,_⟩:=h
 exact ⟨b,h1,h2,⟨cs,h3,h4.below hb h4.lt⟩,fun _ v g hv => goN_own h4.lt ho hg hv⟩
theorem VarB.new {w:World} {base:Nat} {q:Int} {up:Bool} {t:Value} {p:Pl} {gs:List Int} (hbs:base ≤ w.heap.size) (f:up = true → GotB w base p gs q t):VarB (w.alloc (.cells #[.slice none 0 0,.slice none 0 0,.int .i64 0,.int .i64 0] 25)) base q up (.pointer (some ⟨w.heap.size,0,none⟩)) t:=by
 refine ⟨w.heap.size,hbs,rfl,⟨_,rfl,Blok.new _ _ _⟩,fun hu v g hv => ?_⟩
 obtain ⟨v0,g0,e0,hv0,hg0⟩:=f hu
 rw [e0] at hv
 injection hv with hv
 injection hv with hv
 injection hv with h1 hv
 injection hv with h2 _
 subst h1 h2
 exact ⟨PlN.of_below hv0,hg0.nb⟩
def StoB (w:World) (base:Nat) (s t:Value):Prop:=∃ b cs,cs.size = 4 ∧ base ≤ b ∧ s = .pointer (some ⟨b,0,none⟩) ∧ t = .agg cs ∧ Blok w b 25 cs
theorem StoB.below {w w':World} {base:Nat} {s t:Value} (h:StoB w base s t) (hb:Below w.heap.size w w'):StoB w' base s t:=by
 obtain ⟨b,cs,h1,h2,h3,h4,h5⟩:=h
 exact ⟨b,cs,h1,h2,h3,h4,h5.below hb h5.lt⟩
theorem PlOwn.other {w w':World} {base b:Nat} {A:Option Addr} {n c:Nat} {A':Option Addr} {n' c':Nat} {p:Pl} (h:PlOwn w base A n c A' n' c' p) (hg:w.grownBy w' (some b)) (h1:NB b (.slice A n c)) (h2:NB b (.slice A' n' c')):PlOwn w' base A n c A' n' c' p:=⟨h.l1,h.l,h.b1,h.b,own_other h.o1 hg h1,own_other h.o hg h2⟩
theorem PlOwn.far {w w':World} {base b:Nat} {A:Option Addr} {n c:Nat} {A':Option Addr} {n' c':Nat} {p:Pl} (h:PlOwn w base A n c A' n' c' p) (hg:w.grownBy w' (some b)) (hb:b < base):PlOwn w' base A n c A' n' c' p:=⟨h.l1,h.l,h.b1,h.b,own_far h.o1 hg (fun q hq => by injection hq with hq; omega),own_far h.o hg (fun q hq => by injection hq with hq; omega)⟩
/-- An act's directive. -/
def dA (u:Ap):Dr:=⟨u.op,u.kd,u.id,u.fr,u.tn,u.st,u.en,u.rt,u.rf,u.rn,u.rs,u.re,u.ro⟩
theorem take_snocA {l:List Ap} {i:Nat} (h:i < l.length):(l.take (i + 1)).map dA = (l.take i).map dA ++ [dA (gAp l i)]:=by
 rw [take_nextAp h,List.map_append]; rfl
theorem gDr_dA {l:List Ap} {j:Nat} (h:j < l.length):gDr (l.map dA) j = dA (gAp l j):=by
 rw [gAp_eq h,gDr_eq (by simpa using h)]; simp
theorem wf_flatAp {ns:List Int} {d:List Ap} (hw:∀ m ∈ ns,(Lit.int .i64 m).wf = true) (hf:ns.map (Value.int .i64) = flatAp d) {j:Nat} (hj:j < d.length):(Lit.int .i64 (gAp d j).op).wf = true ∧ (Lit.int .i64 (gAp d j).kd).wf = true:=by
 have key:∀ (k:Nat) (x:Int),(flatAp d)[k]? = some (.int .i64 x) → (Lit.int .i64 x).wf = true:=by
  intro k x hx
  rw [← hf,List.getElem?_map] at hx
  cases hn:ns[k]? with
  | none => rw [hn] at hx; simp at hx
  | some y =>
   rw [hn] at hx
   simp at hx
   subst hx
   exact hw _ (List.mem_of_getElem? hn)
 exact ⟨key _ _ (flatAp_at1 d j hj),key _ _ (flatAp_at2 d j hj)⟩
set_option maxHeartbeats 64000000 in
set_option maxRecDepth 100000 in
theorem planTells_w (A1:Option Addr) (n1 c1:Nat) (A:Option Addr) (n c:Nat) (p:Pl) (Al:Option Addr) (nl cl:Nat) (l:List Ap) (B1:Option Addr) (m1 k1:Nat) (B:Option Addr) (m k:Nat) (o:Pl) (hwf:∀ j,j < nl → (Lit.int .i64 (gAp l j).op).wf = true ∧ (Lit.int .i64 (gAp l j).kd).wf = true) (hdl:l.length = nl) (hd1:p.cs.length = n1) (hd:p.rs.length = n) (he1:o.cs.length = m1) (he:o.rs.length = m) (w:World) (h1:Sl w w.heap.size 6 A1 n1 c1 (flatCo p.cs)) (h:Sl w w.heap.size 5 A n c (flatRg p.rs)) (hl:Sl w w.heap.size 15 Al nl cl (flatAp l)) (g1:Sl w w.heap.size 6 B1 m1 k1 (flatCo o.cs)) (g:Sl w w.heap.size 5 B m k (flatRg o.rs)) :
  Calls Tryz.prog 3 #[.agg #[.slice A1 n1 c1,.slice A n c,.int .i64 p.clk,.int .i64 p.ver],.slice Al nl cl,.agg #[.slice B1 m1 k1,.slice B m k,.int .i64 o.clk,.int .i64 o.ver]] w fun e w' => e = .returned (.bool true) ∧ Below w.heap.size w w':=by
 obtain ⟨i0,hi0_,hz0_,hz1_,hz2_⟩:=info_parts infoDr
 have HI:=Lib.hid (And.intro hi0_ (And.intro hz0_ (And.intro hz1_ hz2_)))
 clear hi0_ hz0_ hz1_ hz2_
 have hB:Below w.heap.size w ((w.alloc (.cells #[.slice A1 n1 c1,.slice A n c,.int .i64 p.clk,.int .i64 p.ver] 25)).alloc (.cells #[.slice B1 m1 k1,.slice B m k,.int .i64 o.clk,.int .i64 o.ver] 25)):=by (repeat (first | exact Below.refl _ _ | refine Below.alloc ?_ (by first | omega | (simp; done) | (simp; omega)) _ | refine Below.setCell ?_ (by first | omega | (simp; done) | (simp; omega)) _ | refine Below.drew ?_))
 have hP:=(Blok.new w 25 #[.slice A1 n1 c1,.slice A n c,.int .i64 p.clk,.int .i64 p.ver]).alloc (.cells #[.slice B1 m1 k1,.slice B m k,.int .i64 o.clk,.int .i64 o.ver] 25)
 have hO:=Blok.new (w.alloc (.cells #[.slice A1 n1 c1,.slice A n c,.int .i64 p.clk,.int .i64 p.ver] 25)) 25 #[.slice B1 m1 k1,.slice B m k,.int .i64 o.clk,.int .i64 o.ver]
 rw [World.size_alloc] at hO
 replace h1:=h1.up hB
 replace h:=h.up hB
 replace hl:=hl.up hB
 replace g1:=g1.up hB
 replace g:=g.up hB
 have hs:=hB.size
 have HDL:=Lib.hid hdl
 have HWF:=Lib.hid hwf
 have HD1:=Lib.hid hd1
 have HD:=Lib.hid hd
 have HE1:=Lib.hid he1
 have HE:=Lib.hid he
 clear hd hd1 he he1 hdl hwf
 obtain ⟨fa,hfa⟩:∃ b,decide (n1 ≤ 50 ∧ n ≤ 50) = b:=⟨_,rfl⟩
 obtain ⟨fb,hfb⟩:∃ b,decide (m1 ≤ 50 ∧ m ≤ 50) = b:=⟨_,rfl⟩
 have HFA:=Lib.hid hfa
 have HFB:=Lib.hid hfb
 clear hfa hfb
 go_enter Tryz.func3,Tryz.ntmps3
 go_wp2_with fail
 generalize ((w.alloc (.cells #[.slice A1 n1 c1,.slice A n c,.int .i64 p.clk,.int .i64 p.ver] 25)).alloc (.cells #[.slice B1 m1 k1,.slice B m k,.int .i64 o.clk,.int .i64 o.ver] 25)) = w0 at *
 refine (small08_any w0).mono ?_
 rintro e w1 ⟨rfl,hb⟩
 replace h1:=h1.up hb
 replace h:=h.up hb
 replace hl:=hl.up hb
 replace g1:=g1.up hb
 replace g:=g.up hb
 replace hP:=hP.below hb hP.lt
 replace hO:=hO.below hb hO.lt
 replace hB:=hB.trans (hb.mono hs)
 replace hs:=hB.size
 clear hb
 obtain ⟨p0,p1,p2,p3,lt_p⟩:=blok4 (show Blok _ _ _ #[.slice A1 n1 c1,.slice A n c,.int .i64 p.clk,.int .i64 p.ver] from hP)
 go_wp2_with fail
 clear p0 p1 p2 p3 lt_p
 refine (few_any A1 n1 c1 A n c p.clk p.ver w1 fa HFA.out).mono ?_
 rintro e w2 ⟨rfl,hb⟩
 replace h1:=h1.up hb
 replace h:=h.up hb
 replace hl:=hl.up hb
 replace g1:=g1.up hb
 replace g:=g.up hb
 replace hP:=hP.below hb hP.lt
 replace hO:=hO.below hb hO.lt
 replace hB:=hB.trans (hb.mono hs)
 replace hs:=hB.size
 clear hb
 obtain ⟨p0,p1,p2,p3,lt_p⟩:=blok4 (show Blok _ _ _ #[.slice B1 m1 k1,.slice B m k,.int .i64 o.clk,.int .i64 o.ver] from hO)
 go_wp2_with fail
 clear p0 p1 p2 p3 lt_p
 refine (few_any B1 m1 k1 B m k o.clk o.ver w2 fb HFB.out).mono ?_
 rintro e w3 ⟨rfl,hb⟩
 replace h1:=h1.up hb
 replace h:=h.up hb
 replace hl:=hl.up hb
 replace g1:=g1.up hb
 replace g:=g.up hb
 replace hP:=hP.below hb hP.lt
 replace hO:=hO.below hb hO.lt
 replace hB:=hB.trans (hb.mono hs)
 replace hs:=hB.size
 clear hb
 cases fa
 ·go_wp2_with fail
  go_ret
  exact ⟨rfl,hB⟩
 cases fb
 ·go_wp2_with fail
  go_ret
  exact ⟨rfl,hB⟩
 obtain ⟨hf1,hf2⟩:=of_decide_eq_true HFA.out
 obtain ⟨hf4,hf5⟩:=of_decide_eq_true HFB.out
 by_cases hf3:50 < nl
 ·have g0:decide ((nl:Int) > 50) = true:=decide_eq_true (by omega)
  go_wp2_with fail
  go_ret
  exact ⟨rfl,hB⟩
 have g9:decide ((nl:Int) > 50) = false:=decide_eq_false (by omega)
 go_upto_region 6 with fail
 clear g9
 have hp:PlAt w3 A1 n1 c1 A n c p:=⟨HD1.out,HD.out,by omega,by omega,h1,h⟩
 have ho:PlAt w3 B1 m1 k1 B m k o:=⟨HE1.out,HE.out,by omega,by omega,g1,g⟩
 clear h1 h g1 g
 obtain ⟨rb,hrb⟩:∃ rb,rightP p.cs p.rs p.clk p.ver = rb:=⟨_,rfl⟩
 obtain ⟨r0,hr0⟩:∃ rb,samePB p o = rb:=⟨_,rfl⟩
 have HRB:=Lib.hid hrb
 have HR0:=Lib.hid hr0
 have hRN:∀ w0,(binOp .neq 4 (.bool rb) (.bool rb)).run Tryz.prog w0 = .ok (.bool false) w0:=fun w0 => by cases rb <;> rfl
 have h0N:∀ w0,(binOp .neq 4 (.bool r0) (.bool r0)).run Tryz.prog w0 = .ok (.bool false) w0:=fun w0 => by cases r0 <;> rfl
 clear hrb hr0
 refine gen_frame ?_
 intro a0 ha0
 try simp only [List.append]
 refine wp_region_frames rfl (by kernel_rfl) (by kernel_rfl) (fun V x w' => Below w3.heap.size w3 w' ∧ (V.getD 0 true = true → x 0 = .agg #[.slice A1 n1 c1,.slice A n c,.int .i64 p.clk,.int .i64 p.ver]) ∧ (V.getD 1 true = true → x 1 = .bool rb) ∧ (V.getD 2 true = true → x 2 = .agg #[.slice A1 n1 c1,.slice A n c,.int .i64 p.clk,.int .i64 p.ver]) ∧ (V.getD 3 true = true → x 3 = .bool rb) ∧ (V.getD 4 true = true → x 4 = .bool false) ∧ (V.getD 5 true = true → x 5 = .bool false) ∧ (V.getD 6 true = true → x 6 = .agg #[.slice A1 n1 c1,.slice A n c,.int .i64 p.clk,.int .i64 p.ver]) ∧ (V.getD 7 true = true → x 7 = .agg #[.slice B1 m1 k1,.slice B m k,.int .i64 o.clk,.int .i64 o.ver]) ∧ (V.getD 8 true = true → x 8 = .bool r0) ∧ (V.getD 9 true = true → x 9 = .agg #[.slice A1 n1 c1,.slice A n c,.int .i64 p.clk,.int .i64 p.ver]) ∧ (V.getD 10 true = true → x 10 = .agg #[.slice B1 m1 k1,.slice B m k,.int .i64 o.clk,.int .i64 o.ver]) ∧ (V.getD 11 true = true → x 11 = .bool r0) ∧ (V.getD 12 true = true → x 12 = .bool false) ∧ (V.getD 13 true = true → x 13 = .bool false) ∧ (V.getD 14 true = true → x 14 = .bool false) ∧ (V.getD 15 true = true → x 15 = .agg #[.slice A1 n1 c1,.slice A n c,.int .i64 p.clk,.int .i64 p.ver]) ∧ (V.getD 16 true = true → PlW w' (x 16) p) ∧ (V.getD 17 true = true → x 17 = .agg #[.slice A1 n1 c1,.slice A n c,.int .i64 p.clk,.int .i64 p.ver]) ∧ (V.getD 18 true = true → x 18 = .bool true) ∧ (V.getD 19 true = true → x 19 = .bool false) ∧ (V.getD 20 true = true → x 20 = .bool false)) ?_ ?_ ?_
 ·intro x
  refine ⟨(Below.refl _ _).drew,?_,?_,?_,?_,?_,?_,?_,?_,?_,?_,?_,?_,?_,?_,?_,?_,?_,?_,?_,?_,?_⟩ <;> exact fun h => by simp at h
 ·intro V x b w' hbq hsz hF i hi hun haf hcl
  obtain ⟨hBw,f0,f1,f2,f3,f4,f5,f6,f7,f8,f9,f10,f11,f12,f13,f14,f15,f16,f17,f18,f19,f20⟩:=hF
  have hbe:b = putAll a0 [some 51,some 52,some 53,some 54,some 55,some 56,some 57,some 58,some 59,some 60,some 61,some 62,some 63,some 64,some 65,some 66,some 67,some 68,some 69,some 70,some 71] x 0:=hbq
  have hz0:a0.tmps.size = 236:=by rw [ha0]; rfl
  have e3:b.eval (.tmp 3) = .pointer (some ⟨w.heap.size,0,none⟩):=by rw [hbe,eval_out _ _ _ (by decide),ha0]; rfl
  have t3:b.tmps[3]?.getD undef = .pointer (some ⟨w.heap.size,0,none⟩):=by simpa [Act.eval] using e3
  have e5:b.eval (.tmp 5) = .pointer (some ⟨w.heap.size + 1,0,none⟩):=by rw [hbe,eval_out _ _ _ (by decide),ha0]; rfl
  have t5:b.tmps[5]?.getD undef = .pointer (some ⟨w.heap.size + 1,0,none⟩):=by simpa [Act.eval] using e5
  have evc:∀ v,b.eval (.const v) = v:=fun _ => rfl
  clear hbq
  have hi':i < 21:=hi
  clear hi
  obtain rfl | rfl | rfl | rfl | rfl | rfl | rfl | rfl | rfl | rfl | rfl | rfl | rfl | rfl | rfl | rfl | rfl | rfl | rfl | rfl | rfl:i = 0 ∨ i = 1 ∨ i = 2 ∨ i = 3 ∨ i = 4 ∨ i = 5 ∨ i = 6 ∨ i = 7 ∨ i = 8 ∨ i = 9 ∨ i = 10 ∨ i = 11 ∨ i = 12 ∨ i = 13 ∨ i = 14 ∨ i = 15 ∨ i = 16 ∨ i = 17 ∨ i = 18 ∨ i = 19 ∨ i = 20:=by omega
  ·have bq:=hP.below hBw hP.lt
   have n_0:w'.cell? ⟨w.heap.size,0,none⟩ = some (.slice A1 n1 c1):=bq.cell 0
   have n_1:w'.cell? ⟨w.heap.size,1,none⟩ = some (.slice A n c):=bq.cell 1
   have n_2:w'.cell? ⟨w.heap.size,2,none⟩ = some (.int .i64 p.clk):=bq.cell 2
   have n_3:w'.cell? ⟨w.heap.size,3,none⟩ = some (.int .i64 p.ver):=bq.cell 3
   refine wpOp_runs (v:=.agg #[.slice A1 n1 c1,.slice A n c,.int .i64 p.clk,.int .i64 p.ver]) rfl rfl (by simp [execOp,go_sem,t3,n_0,n_1,n_2,n_3]) ⟨_,_,rfl,rfl,⟨hBw,fun _ => upd_same _ _ _,kE f1 rfl,kE f2 rfl,kE f3 rfl,kE f4 rfl,kE f5 rfl,kE f6 rfl,kE f7 rfl,kE f8 rfl,kE f9 rfl,kE f10 rfl,kE f11 rfl,kE f12 rfl,kE f13 rfl,kE f14 rfl,kE f15 rfl,fun h => by obtain hrl:=f16 (by rw [← getD_set_ne true (show 0 ≠ 16 by decide)]; exact h); exact (by rw [upd_ne x _ (by decide)]; exact hrl),kE f17 rfl,kE f18 rfl,kE f19 rfl,kE f20 rfl⟩⟩
  ·have d0:=getD_ft (haf _ rfl ⟨0,.data⟩ (by simp) rfl)
   have e51:b.eval (.tmp 51) = .agg #[.slice A1 n1 c1,.slice A n c,.int .i64 p.clk,.int .i64 p.ver]:=by rw [hbe,eval_in _ _ _ 0 (by decide) rfl (by rw [hz0]; decide)]; exact f0 d0
   have t51:b.tmps[51]?.getD undef = .agg #[.slice A1 n1 c1,.slice A n c,.int .i64 p.clk,.int .i64 p.ver]:=by have tv:=e51; simpa only [Act.eval,Array.getD_eq_getD_getElem?] using tv
   refine wpOp_call_on rfl (by simp [Region.wanted]) 12 #[.tmp 51] _ rfl #[.agg #[.slice A1 n1 c1,.slice A n c,.int .i64 p.clk,.int .i64 p.ver]] (by simp [e51]) Tryz.func12 rfl rfl ?_
   refine (pright_any A1 n1 c1 p.cs A n c p.rs p.clk p.ver w' HD1.out (by omega) HD.out (by omega) (hp.up hBw).s1 (hp.up hBw).s rb HRB.out).mono ?_
   rintro e w'' ⟨rfl,hb⟩
   exact ⟨_,rfl,_,_,rfl,rfl,⟨hBw.trans (hb.mono hBw.size),kE f0 rfl,fun _ => upd_same _ _ _,kE f2 rfl,kE f3 rfl,kE f4 rfl,kE f5 rfl,kE f6 rfl,kE f7 rfl,kE f8 rfl,kE f9 rfl,kE f10 rfl,kE f11 rfl,kE f12 rfl,kE f13 rfl,kE f14 rfl,kE f15 rfl,fun h => by obtain hrl:=f16 (by rw [← getD_set_ne true (show 1 ≠ 16 by decide)]; exact h); exact (by rw [upd_ne x _ (by decide)]; exact hrl.below hb),kE f17 rfl,kE f18 rfl,kE f19 rfl,kE f20 rfl⟩⟩
  ·have bq:=hP.below hBw hP.lt
   have n_0:w'.cell? ⟨w.heap.size,0,none⟩ = some (.slice A1 n1 c1):=bq.cell 0
   have n_1:w'.cell? ⟨w.heap.size,1,none⟩ = some (.slice A n c):=bq.cell 1
   have n_2:w'.cell? ⟨w.heap.size,2,none⟩ = some (.int .i64 p.clk):=bq.cell 2
   have n_3:w'.cell? ⟨w.heap.size,3,none⟩ = some (.int .i64 p.ver):=bq.cell 3
   refine wpOp_runs (v:=.agg #[.slice A1 n1 c1,.slice A n c,.int .i64 p.clk,.int .i64 p.ver]) rfl rfl (by simp [execOp,go_sem,t3,n_0,n_1,n_2,n_3]) ⟨_,_,rfl,rfl,⟨hBw,kE f0 rfl,kE f1 rfl,fun _ => upd_same _ _ _,kE f3 rfl,kE f4 rfl,kE f5 rfl,kE f6 rfl,kE f7 rfl,kE f8 rfl,kE f9 rfl,kE f10 rfl,kE f11 rfl,kE f12 rfl,kE f13 rfl,kE f14 rfl,kE f15 rfl,fun h => by obtain hrl:=f16 (by rw [← getD_set_ne true (show 2 ≠ 16 by decide)]; exact h); exact (by rw [upd_ne x _ (by decide)]; exact hrl),kE f17 rfl,kE f18 rfl,kE f19 rfl,kE f20 rfl⟩⟩
  ·have d2:=getD_ft (haf _ rfl ⟨2,.data⟩ (by simp) rfl)
   have e53:b.eval (.tmp 53) = .agg #[.slice A1 n1 c1,.slice A n c,.int .i64 p.clk,.int .i64 p.ver]:=by rw [hbe,eval_in _ _ _ 2 (by decide) rfl (by rw [hz0]; decide)]; exact f2 d2
   have t53:b.tmps[53]?.getD undef = .agg #[.slice A1 n1 c1,.slice A n c,.int .i64 p.clk,.int .i64 p.ver]:=by have tv:=e53; simpa only [Act.eval,Array.getD_eq_getD_getElem?] using tv
   refine wpOp_call_on rfl (by simp [Region.wanted]) 13 #[.tmp 53] _ rfl #[.agg #[.slice A1 n1 c1,.slice A n c,.int .i64 p.clk,.int .i64 p.ver]] (by simp [e53]) Tryz.func13 rfl rfl ?_
   refine (rright8_any A1 n1 c1 p.cs A n c p.rs p.clk p.ver w' HD1.out (by omega) HD.out (by omega) (hp.up hBw).s1 (hp.up hBw).s rb HRB.out).mono ?_
   rintro e w'' ⟨rfl,hb⟩
   exact ⟨_,rfl,_,_,rfl,rfl,⟨hBw.trans (hb.mono hBw.size),kE f0 rfl,kE f1 rfl,kE f2 rfl,fun _ => upd_same _ _ _,kE f4 rfl,kE f5 rfl,kE f6 rfl,kE f7 rfl,kE f8 rfl,kE f9 rfl,kE f10 rfl,kE f11 rfl,kE f12 rfl,kE f13 rfl,kE f14 rfl,kE f15 rfl,fun h => by obtain hrl:=f16 (by rw [← getD_set_ne true (show 3 ≠ 16 by decide)]; exact h); exact (by rw [upd_ne x _ (by decide)]; exact hrl.below hb),kE f17 rfl,kE f18 rfl,kE f19 rfl,kE f20 rfl⟩⟩
  ·have d1:=getD_ft (haf _ rfl ⟨1,.data⟩ (by simp) rfl)
   have e52:b.eval (.tmp 52) = .bool rb:=by rw [hbe,eval_in _ _ _ 1 (by decide) rfl (by rw [hz0]; decide)]; exact f1 d1
   have t52:b.tmps[52]?.getD undef = .bool rb:=by have tv:=e52; simpa only [Act.eval,Array.getD_eq_getD_getElem?] using tv
   have d3:=getD_ft (haf _ rfl ⟨3,.data⟩ (by simp) rfl)
   have e54:b.eval (.tmp 54) = .bool rb:=by rw [hbe,eval_in _ _ _ 3 (by decide) rfl (by rw [hz0]; decide)]; exact f3 d3
   have t54:b.tmps[54]?.getD undef = .bool rb:=by have tv:=e54; simpa only [Act.eval,Array.getD_eq_getD_getElem?] using tv
   refine wpOp_runs (v:=.bool false) rfl rfl (by simp [execOp,go_sem,t52,t54,hRN]) ⟨_,_,rfl,rfl,⟨hBw,kE f0 rfl,kE f1 rfl,kE f2 rfl,kE f3 rfl,fun _ => upd_same _ _ _,kE f5 rfl,kE f6 rfl,kE f7 rfl,kE f8 rfl,kE f9 rfl,kE f10 rfl,kE f11 rfl,kE f12 rfl,kE f13 rfl,kE f14 rfl,kE f15 rfl,fun h => by obtain hrl:=f16 (by rw [← getD_set_ne true (show 4 ≠ 16 by decide)]; exact h); exact (by rw [upd_ne x _ (by decide)]; exact hrl),kE f17 rfl,kE f18 rfl,kE f19 rfl,kE f20 rfl⟩⟩
  ·have d4:=getD_ft (haf _ rfl ⟨4,.data⟩ (by simp) rfl)
   have e55:b.eval (.tmp 55) = .bool false:=by rw [hbe,eval_in _ _ _ 4 (by decide) rfl (by rw [hz0]; decide)]; exact f4 d4
   have t55:b.tmps[55]?.getD undef = .bool false:=by have tv:=e55; simpa only [Act.eval,Array.getD_eq_getD_getElem?] using tv
   refine wpOp_runs (v:=.bool false) rfl rfl (by simp [execOp,go_sem,t55]) ⟨_,_,rfl,rfl,⟨hBw,kE f0 rfl,kE f1 rfl,kE f2 rfl,kE f3 rfl,kE f4 rfl,fun _ => upd_same _ _ _,kE f6 rfl,kE f7 rfl,kE f8 rfl,kE f9 rfl,kE f10 rfl,kE f11 rfl,kE f12 rfl,kE f13 rfl,kE f14 rfl,kE f15 rfl,fun h => by obtain hrl:=f16 (by rw [← getD_set_ne true (show 5 ≠ 16 by decide)]; exact h); exact (by rw [upd_ne x _ (by decide)]; exact hrl),kE f17 rfl,kE f18 rfl,kE f19 rfl,kE f20 rfl⟩⟩
  ·have d5:=getD_ft (haf _ rfl ⟨5,.guard⟩ (by simp) rfl)
   have e56:b.eval (.tmp 56) = .bool false:=by rw [hbe,eval_in _ _ _ 5 (by decide) rfl (by rw [hz0]; decide)]; exact f5 d5
   have t56:b.tmps[56]?.getD undef = .bool false:=by have tv:=e56; simpa only [Act.eval,Array.getD_eq_getD_getElem?] using tv
   have bq:=hP.below hBw hP.lt
   have n_0:w'.cell? ⟨w.heap.size,0,none⟩ = some (.slice A1 n1 c1):=bq.cell 0
   have n_1:w'.cell? ⟨w.heap.size,1,none⟩ = some (.slice A n c):=bq.cell 1
   have n_2:w'.cell? ⟨w.heap.size,2,none⟩ = some (.int .i64 p.clk):=bq.cell 2
   have n_3:w'.cell? ⟨w.heap.size,3,none⟩ = some (.int .i64 p.ver):=bq.cell 3
   refine wpOp_runs_on (v:=.agg #[.slice A1 n1 c1,.slice A n c,.int .i64 p.clk,.int .i64 p.ver]) rfl (wanted_on rfl rfl rfl t56) (by simp [execOp,go_sem,t3,n_0,n_1,n_2,n_3]) ⟨_,_,rfl,rfl,⟨hBw,kE f0 rfl,kE f1 rfl,kE f2 rfl,kE f3 rfl,kE f4 rfl,kE f5 rfl,fun _ => upd_same _ _ _,kE f7 rfl,kE f8 rfl,kE f9 rfl,kE f10 rfl,kE f11 rfl,kE f12 rfl,kE f13 rfl,kE f14 rfl,kE f15 rfl,fun h => by obtain hrl:=f16 (by rw [← getD_set_ne true (show 6 ≠ 16 by decide)]; exact h); exact (by rw [upd_ne x _ (by decide)]; exact hrl),kE f17 rfl,kE f18 rfl,kE f19 rfl,kE f20 rfl⟩⟩
  ·have d5:=getD_ft (haf _ rfl ⟨5,.guard⟩ (by simp) rfl)
   have e56:b.eval (.tmp 56) = .bool false:=by rw [hbe,eval_in _ _ _ 5 (by decide) rfl (by rw [hz0]; decide)]; exact f5 d5
   have t56:b.tmps[56]?.getD undef = .bool false:=by have tv:=e56; simpa only [Act.eval,Array.getD_eq_getD_getElem?] using tv
   have bq:=hO.below hBw hO.lt
   have n_0:w'.cell? ⟨w.heap.size + 1,0,none⟩ = some (.slice B1 m1 k1):=bq.cell 0
   have n_1:w'.cell? ⟨w.heap.size + 1,1,none⟩ = some (.slice B m k):=bq.cell 1
   have n_2:w'.cell? ⟨w.heap.size + 1,2,none⟩ = some (.int .i64 o.clk):=bq.cell 2
   have n_3:w'.cell? ⟨w.heap.size + 1,3,none⟩ = some (.int .i64 o.ver):=bq.cell 3
   refine wpOp_runs_on (v:=.agg #[.slice B1 m1 k1,.slice B m k,.int .i64 o.clk,.int .i64 o.ver]) rfl (wanted_on rfl rfl rfl t56) (by simp [execOp,go_sem,t5,n_0,n_1,n_2,n_3]) ⟨_,_,rfl,rfl,⟨hBw,kE f0 rfl,kE f1 rfl,kE f2 rfl,kE f3 rfl,kE f4 rfl,kE f5 rfl,kE f6 rfl,fun _ => upd_same _ _ _,kE f8 rfl,kE f9 rfl,kE f10 rfl,kE f11 rfl,kE f12 rfl,kE f13 rfl,kE f14 rfl,kE f15 rfl,fun h => by obtain hrl:=f16 (by rw [← getD_set_ne true (show 7 ≠ 16 by decide)]; exact h); exact (by rw [upd_ne x _ (by decide)]; exact hrl),kE f17 rfl,kE f18 rfl,kE f19 rfl,kE f20 rfl⟩⟩
  ·have d5:=getD_ft (haf _ rfl ⟨5,.guard⟩ (by simp) rfl)
   have e56:b.eval (.tmp 56) = .bool false:=by rw [hbe,eval_in _ _ _ 5 (by decide) rfl (by rw [hz0]; decide)]; exact f5 d5
   have t56:b.tmps[56]?.getD undef = .bool false:=by have tv:=e56; simpa only [Act.eval,Array.getD_eq_getD_getElem?] using tv
   have d6:=getD_ft (haf _ rfl ⟨6,.data⟩ (by simp) rfl)
   have e57:b.eval (.tmp 57) = .agg #[.slice A1 n1 c1,.slice A n c,.int .i64 p.clk,.int .i64 p.ver]:=by rw [hbe,eval_in _ _ _ 6 (by decide) rfl (by rw [hz0]; decide)]; exact f6 d6
   have t57:b.tmps[57]?.getD undef = .agg #[.slice A1 n1 c1,.slice A n c,.int .i64 p.clk,.int .i64 p.ver]:=by have tv:=e57; simpa only [Act.eval,Array.getD_eq_getD_getElem?] using tv
   have d7:=getD_ft (haf _ rfl ⟨7,.data⟩ (by simp) rfl)
   have e58:b.eval (.tmp 58) = .agg #[.slice B1 m1 k1,.slice B m k,.int .i64 o.clk,.int .i64 o.ver]:=by rw [hbe,eval_in _ _ _ 7 (by decide) rfl (by rw [hz0]; decide)]; exact f7 d7
   have t58:b.tmps[58]?.getD undef = .agg #[.slice B1 m1 k1,.slice B m k,.int .i64 o.clk,.int .i64 o.ver]:=by have tv:=e58; simpa only [Act.eval,Array.getD_eq_getD_getElem?] using tv
   refine wpOp_call_on rfl (wanted_on rfl rfl rfl t56) 14 #[.tmp 57,.tmp 58] _ rfl #[.agg #[.slice A1 n1 c1,.slice A n c,.int .i64 p.clk,.int .i64 p.ver],.agg #[.slice B1 m1 k1,.slice B m k,.int .i64 o.clk,.int .i64 o.ver]] (by simp [e57,e58]) Tryz.func14 rfl rfl ?_
   refine (psame_any A1 n1 c1 A n c p B1 m1 k1 B m k o w' (hp.up hBw) (ho.up hBw) r0 HR0.out).mono ?_
   rintro e w'' ⟨rfl,hb⟩
   exact ⟨_,rfl,_,_,rfl,rfl,⟨hBw.trans (hb.mono hBw.size),kE f0 rfl,kE f1 rfl,kE f2 rfl,kE f3 rfl,kE f4 rfl,kE f5 rfl,kE f6 rfl,kE f7 rfl,fun _ => upd_same _ _ _,kE f9 rfl,kE f10 rfl,kE f11 rfl,kE f12 rfl,kE f13 rfl,kE f14 rfl,kE f15 rfl,fun h => by obtain hrl:=f16 (by rw [← getD_set_ne true (show 8 ≠ 16 by decide)]; exact h); exact (by rw [upd_ne x _ (by decide)]; exact hrl.below hb),kE f17 rfl,kE f18 rfl,kE f19 rfl,kE f20 rfl⟩⟩
  ·have d5:=getD_ft (haf _ rfl ⟨5,.guard⟩ (by simp) rfl)
   have e56:b.eval (.tmp 56) = .bool false:=by rw [hbe,eval_in _ _ _ 5 (by decide) rfl (by rw [hz0]; decide)]; exact f5 d5
   have t56:b.tmps[56]?.getD undef = .bool false:=by have tv:=e56; simpa only [Act.eval,Array.getD_eq_getD_getElem?] using tv
   have bq:=hP.below hBw hP.lt
   have n_0:w'.cell? ⟨w.heap.size,0,none⟩ = some (.slice A1 n1 c1):=bq.cell 0
   have n_1:w'.cell? ⟨w.heap.size,1,none⟩ = some (.slice A n c):=bq.cell 1
   have n_2:w'.cell? ⟨w.heap.size,2,none⟩ = some (.int .i64 p.clk):=bq.cell 2
   have n_3:w'.cell? ⟨w.heap.size,3,none⟩ = some (.int .i64 p.ver):=bq.cell 3
   refine wpOp_runs_on (v:=.agg #[.slice A1 n1 c1,.slice A n c,.int .i64 p.clk,.int .i64 p.ver]) rfl (wanted_on rfl rfl rfl t56) (by simp [execOp,go_sem,t3,n_0,n_1,n_2,n_3]) ⟨_,_,rfl,rfl,⟨hBw,kE f0 rfl,kE f1 rfl,kE f2 rfl,kE f3 rfl,kE f4 rfl,kE f5 rfl,kE f6 rfl,kE f7 rfl,kE f8 rfl,fun _ => upd_same _ _ _,kE f10 rfl,kE f11 rfl,kE f12 rfl,kE f13 rfl,kE f14 rfl,kE f15 rfl,fun h => by obtain hrl:=f16 (by rw [← getD_set_ne true (show 9 ≠ 16 by decide)]; exact h); exact (by rw [upd_ne x _ (by decide)]; exact hrl),kE f17 rfl,kE f18 rfl,kE f19 rfl,kE f20 rfl⟩⟩
  ·have d5:=getD_ft (haf _ rfl ⟨5,.guard⟩ (by simp) rfl)
   have e56:b.eval (.tmp 56) = .bool false:=by rw [hbe,eval_in _ _ _ 5 (by decide) rfl (by rw [hz0]; decide)]; exact f5 d5
   have t56:b.tmps[56]?.getD undef = .bool false:=by have tv:=e56; simpa only [Act.eval,Array.getD_eq_getD_getElem?] using tv
   have bq:=hO.below hBw hO.lt
   have n_0:w'.cell? ⟨w.heap.size + 1,0,none⟩ = some (.slice B1 m1 k1):=bq.cell 0
   have n_1:w'.cell? ⟨w.heap.size + 1,1,none⟩ = some (.slice B m k):=bq.cell 1
   have n_2:w'.cell? ⟨w.heap.size + 1,2,none⟩ = some (.int .i64 o.clk):=bq.cell 2
   have n_3:w'.cell? ⟨w.heap.size + 1,3,none⟩ = some (.int .i64 o.ver):=bq.cell 3
   refine wpOp_runs_on (v:=.agg #[.slice B1 m1 k1,.slice B m k,.int .i64 o.clk,.int .i64 o.ver]) rfl (wanted_on rfl rfl rfl t56) (by simp [execOp,go_sem,t5,n_0,n_1,n_2,n_3]) ⟨_,_,rfl,rfl,⟨hBw,kE f0 rfl,kE f1 rfl,kE f2 rfl,kE f3 rfl,kE f4 rfl,kE f5 rfl,kE f6 rfl,kE f7 rfl,kE f8 rfl,kE f9 rfl,fun _ => upd_same _ _ _,kE f11 rfl,kE f12 rfl,kE f13 rfl,kE f14 rfl,kE f15 rfl,fun h => by obtain hrl:=f16 (by rw [← getD_set_ne true (show 10 ≠ 16 by decide)]; exact h); exact (by rw [upd_ne x _ (by decide)]; exact hrl),kE f17 rfl,kE f18 rfl,kE f19 rfl,kE f20 rfl⟩⟩
  ·have d5:=getD_ft (haf _ rfl ⟨5,.guard⟩ (by simp) rfl)
   have e56:b.eval (.tmp 56) = .bool false:=by rw [hbe,eval_in _ _ _ 5 (by decide) rfl (by rw [hz0]; decide)]; exact f5 d5
   have t56:b.tmps[56]?.getD undef = .bool false:=by have tv:=e56; simpa only [Act.eval,Array.getD_eq_getD_getElem?] using tv
   have d9:=getD_ft (haf _ rfl ⟨9,.data⟩ (by simp) rfl)
   have e60:b.eval (.tmp 60) = .agg #[.slice A1 n1 c1,.slice A n c,.int .i64 p.clk,.int .i64 p.ver]:=by rw [hbe,eval_in _ _ _ 9 (by decide) rfl (by rw [hz0]; decide)]; exact f9 d9
   have t60:b.tmps[60]?.getD undef = .agg #[.slice A1 n1 c1,.slice A n c,.int .i64 p.clk,.int .i64 p.ver]:=by have tv:=e60; simpa only [Act.eval,Array.getD_eq_getD_getElem?] using tv
   have d10:=getD_ft (haf _ rfl ⟨10,.data⟩ (by simp) rfl)
   have e61:b.eval (.tmp 61) = .agg #[.slice B1 m1 k1,.slice B m k,.int .i64 o.clk,.int .i64 o.ver]:=by rw [hbe,eval_in _ _ _ 10 (by decide) rfl (by rw [hz0]; decide)]; exact f10 d10
   have t61:b.tmps[61]?.getD undef = .agg #[.slice B1 m1 k1,.slice B m k,.int .i64 o.clk,.int .i64 o.ver]:=by have tv:=e61; simpa only [Act.eval,Array.getD_eq_getD_getElem?] using tv
   refine wpOp_call_on rfl (wanted_on rfl rfl rfl t56) 15 #[.tmp 60,.tmp 61] _ rfl #[.agg #[.slice A1 n1 c1,.slice A n c,.int .i64 p.clk,.int .i64 p.ver],.agg #[.slice B1 m1 k1,.slice B m k,.int .i64 o.clk,.int .i64 o.ver]] (by simp [e60,e61]) Tryz.func15 rfl rfl ?_
   refine (rpsame_any A1 n1 c1 A n c p B1 m1 k1 B m k o w' (hp.up hBw) (ho.up hBw) r0 HR0.out).mono ?_
   rintro e w'' ⟨rfl,hb⟩
   exact ⟨_,rfl,_,_,rfl,rfl,⟨hBw.trans (hb.mono hBw.size),kE f0 rfl,kE f1 rfl,kE f2 rfl,kE f3 rfl,kE f4 rfl,kE f5 rfl,kE f6 rfl,kE f7 rfl,kE f8 rfl,kE f9 rfl,kE f10 rfl,fun _ => upd_same _ _ _,kE f12 rfl,kE f13 rfl,kE f14 rfl,kE f15 rfl,fun h => by obtain hrl:=f16 (by rw [← getD_set_ne true (show 11 ≠ 16 by decide)]; exact h); exact (by rw [upd_ne x _ (by decide)]; exact hrl.below hb),kE f17 rfl,kE f18 rfl,kE f19 rfl,kE f20 rfl⟩⟩
  ·have d5:=getD_ft (haf _ rfl ⟨5,.guard⟩ (by simp) rfl)
   have e56:b.eval (.tmp 56) = .bool false:=by rw [hbe,eval_in _ _ _ 5 (by decide) rfl (by rw [hz0]; decide)]; exact f5 d5
   have t56:b.tmps[56]?.getD undef = .bool false:=by have tv:=e56; simpa only [Act.eval,Array.getD_eq_getD_getElem?] using tv
   have d8:=getD_ft (haf _ rfl ⟨8,.data⟩ (by simp) rfl)
   have e59:b.eval (.tmp 59) = .bool r0:=by rw [hbe,eval_in _ _ _ 8 (by decide) rfl (by rw [hz0]; decide)]; exact f8 d8
   have t59:b.tmps[59]?.getD undef = .bool r0:=by have tv:=e59; simpa only [Act.eval,Array.getD_eq_getD_getElem?] using tv
   have d11:=getD_ft (haf _ rfl ⟨11,.data⟩ (by simp) rfl)
   have e62:b.eval (.tmp 62) = .bool r0:=by rw [hbe,eval_in _ _ _ 11 (by decide) rfl (by rw [hz0]; decide)]; exact f11 d11
   have t62:b.tmps[62]?.getD undef = .bool r0:=by have tv:=e62; simpa only [Act.eval,Array.getD_eq_getD_getElem?] using tv
   refine wpOp_runs_on (v:=.bool false) rfl (wanted_on rfl rfl rfl t56) (by simp [execOp,go_sem,t59,t62,h0N]) ⟨_,_,rfl,rfl,⟨hBw,kE f0 rfl,kE f1 rfl,kE f2 rfl,kE f3 rfl,kE f4 rfl,kE f5 rfl,kE f6 rfl,kE f7 rfl,kE f8 rfl,kE f9 rfl,kE f10 rfl,kE f11 rfl,fun _ => upd_same _ _ _,kE f13 rfl,kE f14 rfl,kE f15 rfl,fun h => by obtain hrl:=f16 (by rw [← getD_set_ne true (show 12 ≠ 16 by decide)]; exact h); exact (by rw [upd_ne x _ (by decide)]; exact hrl),kE f17 rfl,kE f18 rfl,kE f19 rfl,kE f20 rfl⟩⟩
  ·have d5:=getD_ft (haf _ rfl ⟨5,.data⟩ (by simp) rfl)
   have e56:b.eval (.tmp 56) = .bool false:=by rw [hbe,eval_in _ _ _ 5 (by decide) rfl (by rw [hz0]; decide)]; exact f5 d5
   have t56:b.tmps[56]?.getD undef = .bool false:=by have tv:=e56; simpa only [Act.eval,Array.getD_eq_getD_getElem?] using tv
   have d12:=getD_ft (haf _ rfl ⟨12,.data⟩ (by simp) rfl)
   have e63:b.eval (.tmp 63) = .bool false:=by rw [hbe,eval_in _ _ _ 12 (by decide) rfl (by rw [hz0]; decide)]; exact f12 d12
   have t63:b.tmps[63]?.getD undef = .bool false:=by have tv:=e63; simpa only [Act.eval,Array.getD_eq_getD_getElem?] using tv
   refine wpOp_runs (v:=.bool false) rfl rfl (by simp [execOp,go_sem,t56,t63]) ⟨_,_,rfl,rfl,⟨hBw,kE f0 rfl,kE f1 rfl,kE f2 rfl,kE f3 rfl,kE f4 rfl,kE f5 rfl,kE f6 rfl,kE f7 rfl,kE f8 rfl,kE f9 rfl,kE f10 rfl,kE f11 rfl,kE f12 rfl,fun _ => upd_same _ _ _,kE f14 rfl,kE f15 rfl,fun h => by obtain hrl:=f16 (by rw [← getD_set_ne true (show 13 ≠ 16 by decide)]; exact h); exact (by rw [upd_ne x _ (by decide)]; exact hrl),kE f17 rfl,kE f18 rfl,kE f19 rfl,kE f20 rfl⟩⟩
  ·have d13:=getD_ft (haf _ rfl ⟨13,.data⟩ (by simp) rfl)
   have e64:b.eval (.tmp 64) = .bool false:=by rw [hbe,eval_in _ _ _ 13 (by decide) rfl (by rw [hz0]; decide)]; exact f13 d13
   have t64:b.tmps[64]?.getD undef = .bool false:=by have tv:=e64; simpa only [Act.eval,Array.getD_eq_getD_getElem?] using tv
   refine wpOp_runs (v:=.bool false) rfl rfl (by simp [execOp,go_sem,t64]) ⟨_,_,rfl,rfl,⟨hBw,kE f0 rfl,kE f1 rfl,kE f2 rfl,kE f3 rfl,kE f4 rfl,kE f5 rfl,kE f6 rfl,kE f7 rfl,kE f8 rfl,kE f9 rfl,kE f10 rfl,kE f11 rfl,kE f12 rfl,kE f13 rfl,fun _ => upd_same _ _ _,kE f15 rfl,fun h => by obtain hrl:=f16 (by rw [← getD_set_ne true (show 14 ≠ 16 by decide)]; exact h); exact (by rw [upd_ne x _ (by decide)]; exact hrl),kE f17 rfl,kE f18 rfl,kE f19 rfl,kE f20 rfl⟩⟩
  ·have d14:=getD_ft (haf _ rfl ⟨14,.guard⟩ (by simp) rfl)
   have e65:b.eval (.tmp 65) = .bool false:=by rw [hbe,eval_in _ _ _ 14 (by decide) rfl (by rw [hz0]; decide)]; exact f14 d14
   have t65:b.tmps[65]?.getD undef = .bool false:=by have tv:=e65; simpa only [Act.eval,Array.getD_eq_getD_getElem?] using tv
   have bq:=hP.below hBw hP.lt
   have n_0:w'.cell? ⟨w.heap.size,0,none⟩ = some (.slice A1 n1 c1):=bq.cell 0
   have n_1:w'.cell? ⟨w.heap.size,1,none⟩ = some (.slice A n c):=bq.cell 1
   have n_2:w'.cell? ⟨w.heap.size,2,none⟩ = some (.int .i64 p.clk):=bq.cell 2
   have n_3:w'.cell? ⟨w.heap.size,3,none⟩ = some (.int .i64 p.ver):=bq.cell 3
   refine wpOp_runs_on (v:=.agg #[.slice A1 n1 c1,.slice A n c,.int .i64 p.clk,.int .i64 p.ver]) rfl (wanted_on rfl rfl rfl t65) (by simp [execOp,go_sem,t3,n_0,n_1,n_2,n_3]) ⟨_,_,rfl,rfl,⟨hBw,kE f0 rfl,kE f1 rfl,kE f2 rfl,kE f3 rfl,kE f4 rfl,kE f5 rfl,kE f6 rfl,kE f7 rfl,kE f8 rfl,kE f9 rfl,kE f10 rfl,kE f11 rfl,kE f12 rfl,kE f13 rfl,kE f14 rfl,fun _ => upd_same _ _ _,fun h => by obtain hrl:=f16 (by rw [← getD_set_ne true (show 15 ≠ 16 by decide)]; exact h); exact (by rw [upd_ne x _ (by decide)]; exact hrl),kE f17 rfl,kE f18 rfl,kE f19 rfl,kE f20 rfl⟩⟩
  ·have d14:=getD_ft (haf _ rfl ⟨14,.guard⟩ (by simp) rfl)
   have e65:b.eval (.tmp 65) = .bool false:=by rw [hbe,eval_in _ _ _ 14 (by decide) rfl (by rw [hz0]; decide)]; exact f14 d14
   have t65:b.tmps[65]?.getD undef = .bool false:=by have tv:=e65; simpa only [Act.eval,Array.getD_eq_getD_getElem?] using tv
   have d15:=getD_ft (haf _ rfl ⟨15,.data⟩ (by simp) rfl)
   have e66:b.eval (.tmp 66) = .agg #[.slice A1 n1 c1,.slice A n c,.int .i64 p.clk,.int .i64 p.ver]:=by rw [hbe,eval_in _ _ _ 15 (by decide) rfl (by rw [hz0]; decide)]; exact f15 d15
   have t66:b.tmps[66]?.getD undef = .agg #[.slice A1 n1 c1,.slice A n c,.int .i64 p.clk,.int .i64 p.ver]:=by have tv:=e66; simpa only [Act.eval,Array.getD_eq_getD_getElem?] using tv
   refine wpOp_call_on rfl (wanted_on rfl rfl rfl t65) 16 #[.tmp 66] _ rfl #[.agg #[.slice A1 n1 c1,.slice A n c,.int .i64 p.clk,.int .i64 p.ver]] (by simp [e66]) Tryz.func16 rfl rfl ?_
   refine (pcopy_any A1 n1 c1 A n c p w' (hp.up hBw)).mono ?_
   rintro e w'' ⟨A9,q9,A8,q8,rfl,hr,hb⟩
   exact ⟨_,rfl,_,_,rfl,rfl,⟨hBw.trans (hb.mono hBw.size),kE f0 rfl,kE f1 rfl,kE f2 rfl,kE f3 rfl,kE f4 rfl,kE f5 rfl,kE f6 rfl,kE f7 rfl,kE f8 rfl,kE f9 rfl,kE f10 rfl,kE f11 rfl,kE f12 rfl,kE f13 rfl,kE f14 rfl,kE f15 rfl,fun _ => (by rw [upd_same]; exact ⟨A9,_,q9,A8,_,q8,rfl,hr.at_⟩),kE f17 rfl,kE f18 rfl,kE f19 rfl,kE f20 rfl⟩⟩
  ·have d14:=getD_ft (haf _ rfl ⟨14,.guard⟩ (by simp) rfl)
   have e65:b.eval (.tmp 65) = .bool false:=by rw [hbe,eval_in _ _ _ 14 (by decide) rfl (by rw [hz0]; decide)]; exact f14 d14
   have t65:b.tmps[65]?.getD undef = .bool false:=by have tv:=e65; simpa only [Act.eval,Array.getD_eq_getD_getElem?] using tv
   have bq:=hP.below hBw hP.lt
   have n_0:w'.cell? ⟨w.heap.size,0,none⟩ = some (.slice A1 n1 c1):=bq.cell 0
   have n_1:w'.cell? ⟨w.heap.size,1,none⟩ = some (.slice A n c):=bq.cell 1
   have n_2:w'.cell? ⟨w.heap.size,2,none⟩ = some (.int .i64 p.clk):=bq.cell 2
   have n_3:w'.cell? ⟨w.heap.size,3,none⟩ = some (.int .i64 p.ver):=bq.cell 3
   refine wpOp_runs_on (v:=.agg #[.slice A1 n1 c1,.slice A n c,.int .i64 p.clk,.int .i64 p.ver]) rfl (wanted_on rfl rfl rfl t65) (by simp [execOp,go_sem,t3,n_0,n_1,n_2,n_3]) ⟨_,_,rfl,rfl,⟨hBw,kE f0 rfl,kE f1 rfl,kE f2 rfl,kE f3 rfl,kE f4 rfl,kE f5 rfl,kE f6 rfl,kE f7 rfl,kE f8 rfl,kE f9 rfl,kE f10 rfl,kE f11 rfl,kE f12 rfl,kE f13 rfl,kE f14 rfl,kE f15 rfl,fun h => by obtain hrl:=f16 (by rw [← getD_set_ne true (show 17 ≠ 16 by decide)]; exact h); exact (by rw [upd_ne x _ (by decide)]; exact hrl),fun _ => upd_same _ _ _,kE f18 rfl,kE f19 rfl,kE f20 rfl⟩⟩
  ·have d14:=getD_ft (haf _ rfl ⟨14,.guard⟩ (by simp) rfl)
   have e65:b.eval (.tmp 65) = .bool false:=by rw [hbe,eval_in _ _ _ 14 (by decide) rfl (by rw [hz0]; decide)]; exact f14 d14
   have t65:b.tmps[65]?.getD undef = .bool false:=by have tv:=e65; simpa only [Act.eval,Array.getD_eq_getD_getElem?] using tv
   have d16:=getD_ft (haf _ rfl ⟨16,.data⟩ (by simp) rfl)
   have q16:=f16 d16
   have e67:b.eval (.tmp 67) = x 16:=by rw [hbe,eval_in _ _ _ 16 (by decide) rfl (by rw [hz0]; decide)]
   have t67:b.tmps[67]?.getD undef = x 16:=by have tv:=e67; simpa only [Act.eval,Array.getD_eq_getD_getElem?] using tv
   have d17:=getD_ft (haf _ rfl ⟨17,.data⟩ (by simp) rfl)
   have e68:b.eval (.tmp 68) = .agg #[.slice A1 n1 c1,.slice A n c,.int .i64 p.clk,.int .i64 p.ver]:=by rw [hbe,eval_in _ _ _ 17 (by decide) rfl (by rw [hz0]; decide)]; exact f17 d17
   have t68:b.tmps[68]?.getD undef = .agg #[.slice A1 n1 c1,.slice A n c,.int .i64 p.clk,.int .i64 p.ver]:=by have tv:=e68; simpa only [Act.eval,Array.getD_eq_getD_getElem?] using tv
   refine wpOp_call_on rfl (wanted_on rfl rfl rfl t65) 15 #[.tmp 67,.tmp 68] _ rfl #[x 16,.agg #[.slice A1 n1 c1,.slice A n c,.int .i64 p.clk,.int .i64 p.ver]] (by simp [e67,e68]) Tryz.func15 rfl rfl ?_
   refine (rsameW q16 ⟨A1,n1,c1,A,n,c,rfl,hp.up hBw⟩ true (samePB_refl p)).mono ?_
   rintro e w'' ⟨rfl,hb⟩
   exact ⟨_,rfl,_,_,rfl,rfl,⟨hBw.trans (hb.mono hBw.size),kE f0 rfl,kE f1 rfl,kE f2 rfl,kE f3 rfl,kE f4 rfl,kE f5 rfl,kE f6 rfl,kE f7 rfl,kE f8 rfl,kE f9 rfl,kE f10 rfl,kE f11 rfl,kE f12 rfl,kE f13 rfl,kE f14 rfl,kE f15 rfl,fun h => by obtain hrl:=f16 (by rw [← getD_set_ne true (show 18 ≠ 16 by decide)]; exact h); exact (by rw [upd_ne x _ (by decide)]; exact hrl.below hb),kE f17 rfl,fun _ => upd_same _ _ _,kE f19 rfl,kE f20 rfl⟩⟩
  ·have d14:=getD_ft (haf _ rfl ⟨14,.guard⟩ (by simp) rfl)
   have e65:b.eval (.tmp 65) = .bool false:=by rw [hbe,eval_in _ _ _ 14 (by decide) rfl (by rw [hz0]; decide)]; exact f14 d14
   have t65:b.tmps[65]?.getD undef = .bool false:=by have tv:=e65; simpa only [Act.eval,Array.getD_eq_getD_getElem?] using tv
   have d18:=getD_ft (haf _ rfl ⟨18,.data⟩ (by simp) rfl)
   have e69:b.eval (.tmp 69) = .bool true:=by rw [hbe,eval_in _ _ _ 18 (by decide) rfl (by rw [hz0]; decide)]; exact f18 d18
   have t69:b.tmps[69]?.getD undef = .bool true:=by have tv:=e69; simpa only [Act.eval,Array.getD_eq_getD_getElem?] using tv
   refine wpOp_runs_on (v:=.bool false) rfl (wanted_on rfl rfl rfl t65) (by simp [execOp,go_sem,t69]) ⟨_,_,rfl,rfl,⟨hBw,kE f0 rfl,kE f1 rfl,kE f2 rfl,kE f3 rfl,kE f4 rfl,kE f5 rfl,kE f6 rfl,kE f7 rfl,kE f8 rfl,kE f9 rfl,kE f10 rfl,kE f11 rfl,kE f12 rfl,kE f13 rfl,kE f14 rfl,kE f15 rfl,fun h => by obtain hrl:=f16 (by rw [← getD_set_ne true (show 19 ≠ 16 by decide)]; exact h); exact (by rw [upd_ne x _ (by decide)]; exact hrl),kE f17 rfl,kE f18 rfl,fun _ => upd_same _ _ _,kE f20 rfl⟩⟩
  ·have d14:=getD_ft (haf _ rfl ⟨14,.data⟩ (by simp) rfl)
   have e65:b.eval (.tmp 65) = .bool false:=by rw [hbe,eval_in _ _ _ 14 (by decide) rfl (by rw [hz0]; decide)]; exact f14 d14
   have t65:b.tmps[65]?.getD undef = .bool false:=by have tv:=e65; simpa only [Act.eval,Array.getD_eq_getD_getElem?] using tv
   have d19:=getD_ft (haf _ rfl ⟨19,.data⟩ (by simp) rfl)
   have e70:b.eval (.tmp 70) = .bool false:=by rw [hbe,eval_in _ _ _ 19 (by decide) rfl (by rw [hz0]; decide)]; exact f19 d19
   have t70:b.tmps[70]?.getD undef = .bool false:=by have tv:=e70; simpa only [Act.eval,Array.getD_eq_getD_getElem?] using tv
   refine wpOp_runs (v:=.bool false) rfl rfl (by simp [execOp,go_sem,t65,t70]) ⟨_,_,rfl,rfl,⟨hBw,kE f0 rfl,kE f1 rfl,kE f2 rfl,kE f3 rfl,kE f4 rfl,kE f5 rfl,kE f6 rfl,kE f7 rfl,kE f8 rfl,kE f9 rfl,kE f10 rfl,kE f11 rfl,kE f12 rfl,kE f13 rfl,kE f14 rfl,kE f15 rfl,fun h => by obtain hrl:=f16 (by rw [← getD_set_ne true (show 20 ≠ 16 by decide)]; exact h); exact (by rw [upd_ne x _ (by decide)]; exact hrl),kE f17 rfl,kE f18 rfl,kE f19 rfl,fun _ => upd_same _ _ _⟩⟩
 intro V x w' hall hF
 obtain ⟨hbF,f0,f1,f2,f3,f4,f5,f6,f7,f8,f9,f10,f11,f12,f13,f14,f15,f16,f17,f18,f19,f20⟩:=hF
 have hx20:=f20 (hall 20 (by decide))
 clear hall f0 f1 f2 f3 f4 f5 f6 f7 f8 f9 f10 f11 f12 f13 f14 f15 f16 f17 f18 f19 f20
 subst ha0
 simp only [List.map_cons,List.map_nil,putAll,hx20]
 clear hx20
 go_simp
 have hb:=hbF
 clear hbF hRN h0N ho hO
 replace hp:=hp.up hb
 replace hl:=hl.up hb
 replace hP:=hP.below hb hP.lt
 replace hB:=hB.trans (hb.mono hs)
 replace hs:=hB.size
 clear hb
 obtain ⟨p0,p1,p2,p3,lt_p⟩:=blok4 (show Blok _ _ _ #[.slice A1 n1 c1,.slice A n c,.int .i64 p.clk,.int .i64 p.ver] from hP)
 go_wp2_with fail
 clear p0 p1 p2 p3 lt_p
 refine (rright8_any A1 n1 c1 p.cs A n c p.rs p.clk p.ver w' HD1.out (by omega) HD.out (by omega) hp.s1 hp.s rb HRB.out).mono ?_
 rintro e w4 ⟨rfl,hb⟩
 replace hp:=hp.up hb
 replace hl:=hl.up hb
 replace hP:=hP.below hb hP.lt
 replace hB:=hB.trans (hb.mono hs)
 replace hs:=hB.size
 clear hb
 cases rb
 ·go_wp2_with fail
  go_ret
  exact ⟨rfl,hB⟩
 have HPR:=Lib.hid (show p.right = true from HRB.out)
 obtain ⟨ds,hds⟩:∃ x,l.map dA = x:=⟨_,rfl⟩
 have HDS:=Lib.hid hds
 clear hds
 have HLL:=Lib.hid (fun w' (hb:Below w4.heap.size w4 w') => hl.up hb)
 have HB0:=Lib.hid hB
 clear hl
 go_wp2_with fail
 go_loopw [10,11] (fun ev iv wr => ∃ (es:List Dr) (i:Nat),iv = .int .i64 i ∧ i ≤ nl ∧ Hid (es.length = i) ∧ Hid (es = (l.take i).map dA) ∧ wr.ownsRow w4.heap.size 37 13 ev i (flatDr es) ∧ Below w4.heap.size w4 wr) (fun ev iv _ => nl - (intOf iv).toNat)
 case atStart => exact ⟨[],0,rfl,by omega,rfl,rfl,World.ownsRow_nil _ _ _ _,Below.refl _ _⟩
 case round =>
  obtain ⟨es,i,rfl,hi,HEL,HF,hown,hBr⟩:=hrel
  have hsr:=hBr.size
  obtain ⟨Ae,ce,rfl⟩:=slice_of_own hown
  by_cases hin:i < nl
  ·obtain ⟨u,hu⟩:∃ u,gAp l i = u:=⟨_,rfl⟩
   obtain ⟨al,hA1,hab,hcs⟩:=(HLL.out _ hBr).lst.atAp HDL.out hin
   have hst:=take_snocA (l:=l) (i:=i) (by rw [HDL.out]; exact hin)
   rw [hu] at hcs hst
   obtain ⟨d,hd⟩:∃ d,dA u = d:=⟨_,rfl⟩
   have HNX:Hid (es ++ [d] = (l.take (i + 1)).map dA):=by
    show es ++ [d] = (l.take (i + 1)).map dA
    rw [hst,HF.out,hd]
   have hin2:(i:Int) < (nl:Int):=by omega
   obtain ⟨hi0,hz0,hz1,hz2⟩:=HI.out
   subst hA1
   clear hst hu
   obtain ⟨e0,e1,e2,e3,e4,e5,e6,e7,e8,e9,ea,eb,ec,ed,ee⟩:=hcs
   rw [show u.op = d.op from by rw [← hd]; rfl] at e1
   rw [show u.kd = d.kd from by rw [← hd]; rfl] at e2
   rw [show u.id = d.id from by rw [← hd]; rfl] at e3
   rw [show u.fr = d.fr from by rw [← hd]; rfl] at e4
   rw [show u.tn = d.tn from by rw [← hd]; rfl] at e5
   rw [show u.st = d.st from by rw [← hd]; rfl] at e6
   rw [show u.en = d.en from by rw [← hd]; rfl] at e7
   rw [show u.rt = d.rt from by rw [← hd]; rfl] at e8
   rw [show u.rf = d.rf from by rw [← hd]; rfl] at e9
   rw [show u.rn = d.rn from by rw [← hd]; rfl] at ea
   rw [show u.rs = d.rs from by rw [← hd]; rfl] at eb
   rw [show u.re = d.re from by rw [← hd]; rfl] at ec
   rw [show u.ro = d.ro from by rw [← hd]; rfl] at ed
   have HNW:=Lib.hid hown
   clear hd e0 ee
   go_wp2_with (first | (at_builtin; refine wpList_append_own _ rfl _ _ 31 rfl w4.heap.size 37 i0 _ 13 104 Tryz.underlying31 hi0 hz0 hz1 hz2 rfl (by decide) _ _ _ rfl (HNW.out.alloc _) ⟨wr.heap.size,0,none⟩ 1 1 [.int .i64 d.op,.int .i64 d.kd,.int .i64 d.id,.int .i64 d.fr,.int .i64 d.tn,.int .i64 d.st,.int .i64 d.en,.int .i64 d.rt,.int .i64 d.rf,.int .i64 d.rn,.int .i64 d.rs,.int .i64 d.re,.int .i64 d.ro] rfl rfl (by exact lit_cells wr #[.int .i64 d.op,.int .i64 d.kd,.int .i64 d.id,.int .i64 d.fr,.int .i64 d.tn,.int .i64 d.st,.int .i64 d.en,.int .i64 d.rt,.int .i64 d.rf,.int .i64 d.rn,.int .i64 d.rs,.int .i64 d.re,.int .i64 d.ro] _ _ rfl) (by simp [Value.oneCell']) (by unfold maxLen; omega) (by omega) (by simp; omega) ?_; intro v' w3 hown' hgrow3 hnil3; clear hnil3))
   have hbN:Below w4.heap.size w4 w3:=(hBr.alloc hsr _).grown hgrow3 (by simp; omega) (fun q hq => by have:=(HNW.out.lt q hq).1; omega)
   clear hgrow3 hi0 hz0 hz1 hz2
   go_roundw
   case rel => exact ⟨es ++ [d],i + 1,by go_num,by omega,by simp [Hid,HEL.out],HNX,(by rw [flatDr_append,flatDr_one_]; exact hown'),hbN⟩
   case measure => simp [intOf]; omega
  ·obtain rfl:i = nl:=by omega
   have he:es = ds:=by rw [HF.out,List.take_of_length_le (by rw [HDL.out]; exact Nat.le_refl _),HDS.out]
   subst he
   have hes:=Sl.of_own hown
   have hb:=hBr
   clear hown hBr hsr HF
   have hl:=HLL.out _ hb
   replace hp:=hp.up hb
   replace hP:=hP.below hb hP.lt
   replace hB:=hB.trans (hb.mono hs)
   replace hs:=hB.size
   clear hb
   obtain ⟨a,ha⟩:∃ a,allP p es = a:=⟨_,rfl⟩
   obtain ⟨q,kq,hqk⟩:∃ q k,allQ p es = (q,k):=⟨_,_,rfl⟩
   have HA:=Lib.hid ha
   have HQ:=Lib.hid hqk
   have HWD:Hid (∀ j,j < i → (Lit.int .i64 (gDr es j).op).wf = true ∧ (Lit.int .i64 (gDr es j).kd).wf = true):=fun j hj => by rw [← HDS.out,gDr_dA (by rw [HDL.out]; exact hj)]; exact HWF.out j hj
   clear ha hqk
   obtain ⟨p0,p1,p2,p3,lt_p⟩:=blok4 (show Blok _ _ _ #[.slice A1 n1 c1,.slice A n c,.int .i64 p.clk,.int .i64 p.ver] from hP)
   go_wp2_with fail
   clear p0 p1 p2 p3 lt_p
   refine (pall_any A1 n1 c1 A n c p Ae i ce es wr HEL.out (by omega) HWD.out hp hes HPR.out).mono ?_
   rintro e w5 ⟨A2,n2,c2,A3,n3,c3,rfl,ho,hb⟩
   rw [HA.out] at ho
   rw [HA.out,HQ.out]
   have hq:=ho.at_
   clear ho
   replace hp:=hp.up hb
   replace hl:=hl.up hb
   replace hes:=hes.up hb
   replace hP:=hP.below hb hP.lt
   replace hB:=hB.trans (hb.mono hs)
   replace hs:=hB.size
   clear hb
   go_upto_region 16 with fail
   have ba:=Blok.new w5 25 #[.slice A2 n2 c2,.slice A3 n3 c3,.int .i64 a.clk,.int .i64 a.ver]
   have hb:Below w5.heap.size w5 (w5.alloc (.cells #[.slice A2 n2 c2,.slice A3 n3 c3,.int .i64 a.clk,.int .i64 a.ver] 25)):=by (repeat (first | exact Below.refl _ _ | refine Below.alloc ?_ (by first | omega | (simp; done) | (simp; omega)) _ | refine Below.setCell ?_ (by first | omega | (simp; done) | (simp; omega)) _ | refine Below.drew ?_))
   replace hp:=hp.up hb
   replace hl:=hl.up hb
   replace hes:=hes.up hb
   replace hq:=hq.up hb
   replace hP:=hP.below hb hP.lt
   replace hB:=hB.trans (hb.mono hs)
   replace hs:=hB.size
   clear hb
   generalize w5.alloc (.cells #[.slice A2 n2 c2,.slice A3 n3 c3,.int .i64 a.clk,.int .i64 a.ver] 25) = w6 at *
   generalize hzz:w5.heap.size = Ba at *
   clear hzz
   obtain ⟨p0,p1,p2,p3,lt_p⟩:=blok4 (show Blok _ _ _ #[.slice A1 n1 c1,.slice A n c,.int .i64 p.clk,.int .i64 p.ver] from hP)
   go_wp2_with fail
   clear p0 p1 p2 p3 lt_p
   refine (rpall_any A1 n1 c1 A n c p Ae i ce es w6 HEL.out (by omega) hp hes HPR.out).mono ?_
   rintro e w7 ⟨A4,n4,c4,Ab,nb,cb,rfl,ho,hb⟩
   rw [HA.out] at ho
   rw [HA.out,HQ.out]
   have hr:=ho.at_
   clear ho
   replace hp:=hp.up hb
   replace hl:=hl.up hb
   replace hq:=hq.up hb
   replace hP:=hP.below hb hP.lt
   replace ba:=ba.below hb ba.lt
   replace hB:=hB.trans (hb.mono hs)
   replace hs:=hB.size
   clear hb
   clear hes
   go_upto_region 17 with fail
   have bb:=Blok.new w7 25 #[.slice A4 n4 c4,.slice Ab nb cb,.int .i64 a.clk,.int .i64 a.ver]
   have hb:Below w7.heap.size w7 (w7.alloc (.cells #[.slice A4 n4 c4,.slice Ab nb cb,.int .i64 a.clk,.int .i64 a.ver] 25)):=by (repeat (first | exact Below.refl _ _ | refine Below.alloc ?_ (by first | omega | (simp; done) | (simp; omega)) _ | refine Below.setCell ?_ (by first | omega | (simp; done) | (simp; omega)) _ | refine Below.drew ?_))
   replace hp:=hp.up hb
   replace hl:=hl.up hb
   replace hq:=hq.up hb
   replace hr:=hr.up hb
   replace hP:=hP.below hb hP.lt
   replace ba:=ba.below hb ba.lt
   replace hB:=hB.trans (hb.mono hs)
   replace hs:=hB.size
   clear hb
   generalize w7.alloc (.cells #[.slice A4 n4 c4,.slice Ab nb cb,.int .i64 a.clk,.int .i64 a.ver] 25) = w8 at *
   generalize hzz:w7.heap.size = Bb at *
   clear hzz
   refine gen_frame ?_
   intro a0 ha0
   try simp only [List.append]
   refine wp_region_frames rfl (by kernel_rfl) (by kernel_rfl) (fun V x w' => Below w8.heap.size w8 w' ∧ (V.getD 0 true = true → x 0 = .agg #[.slice A2 n2 c2,.slice A3 n3 c3,.int .i64 a.clk,.int .i64 a.ver]) ∧ (V.getD 1 true = true → x 1 = .agg #[.slice A4 n4 c4,.slice Ab nb cb,.int .i64 a.clk,.int .i64 a.ver]) ∧ (V.getD 2 true = true → x 2 = .bool true) ∧ (V.getD 3 true = true → x 3 = .bool false) ∧ (V.getD 4 true = true → x 4 = .bool false) ∧ (V.getD 5 true = true → x 5 = .int .i64 (kq:Nat)) ∧ (V.getD 6 true = true → x 6 = .int .i64 (kq:Nat)) ∧ (V.getD 7 true = true → x 7 = .bool false) ∧ (V.getD 8 true = true → x 8 = .bool false) ∧ (V.getD 9 true = true → x 9 = .bool false) ∧ (V.getD 10 true = true → x 10 = .int .i64 q) ∧ (V.getD 11 true = true → x 11 = .int .i64 q) ∧ (V.getD 12 true = true → x 12 = .bool false) ∧ (V.getD 13 true = true → x 13 = .bool false) ∧ (V.getD 14 true = true → x 14 = .bool false) ∧ (V.getD 15 true = true → x 15 = .agg #[.slice A1 n1 c1,.slice A n c,.int .i64 p.clk,.int .i64 p.ver]) ∧ (V.getD 16 true = true → DrL w' (x 16) (listP p)) ∧ (V.getD 17 true = true → x 17 = .agg #[.slice A1 n1 c1,.slice A n c,.int .i64 p.clk,.int .i64 p.ver]) ∧ (V.getD 18 true = true → DrL w' (x 18) (listP p)) ∧ (V.getD 19 true = true → x 19 = .bool true) ∧ (V.getD 20 true = true → x 20 = .bool false) ∧ (V.getD 21 true = true → x 21 = .bool false)) ?_ ?_ ?_
   ·intro x
    refine ⟨(Below.refl _ _).drew,?_,?_,?_,?_,?_,?_,?_,?_,?_,?_,?_,?_,?_,?_,?_,?_,?_,?_,?_,?_,?_,?_⟩ <;> exact fun h => by simp at h
   ·intro V x b w' hbq hsz hF i hi hun haf hcl
    obtain ⟨hBw,f0,f1,f2,f3,f4,f5,f6,f7,f8,f9,f10,f11,f12,f13,f14,f15,f16,f17,f18,f19,f20,f21⟩:=hF
    have hbe:b = putAll a0 [some 104,some 105,some 106,some 107,some 108,some 109,some 110,some 111,some 112,some 113,some 114,some 115,some 116,some 117,some 118,some 119,some 120,some 121,some 122,some 123,some 124,some 125] x 0:=hbq
    have hz0:a0.tmps.size = 236:=by rw [ha0]; rfl
    have e3:b.eval (.tmp 3) = .pointer (some ⟨w.heap.size,0,none⟩):=by rw [hbe,eval_out _ _ _ (by decide),ha0]; rfl
    have t3:b.tmps[3]?.getD undef = .pointer (some ⟨w.heap.size,0,none⟩):=by simpa [Act.eval] using e3
    have e12:b.eval (.tmp 12) = .pointer (some ⟨Ba,0,none⟩):=by rw [hbe,eval_out _ _ _ (by decide),ha0]; rfl
    have t12:b.tmps[12]?.getD undef = .pointer (some ⟨Ba,0,none⟩):=by simpa [Act.eval] using e12
    have e13:b.eval (.tmp 13) = .int .i64 (kq:Nat):=by rw [hbe,eval_out _ _ _ (by decide),ha0]; rfl
    have t13:b.tmps[13]?.getD undef = .int .i64 (kq:Nat):=by simpa [Act.eval] using e13
    have e14:b.eval (.tmp 14) = .int .i64 q:=by rw [hbe,eval_out _ _ _ (by decide),ha0]; rfl
    have t14:b.tmps[14]?.getD undef = .int .i64 q:=by simpa [Act.eval] using e14
    have e15:b.eval (.tmp 15) = .pointer (some ⟨Bb,0,none⟩):=by rw [hbe,eval_out _ _ _ (by decide),ha0]; rfl
    have t15:b.tmps[15]?.getD undef = .pointer (some ⟨Bb,0,none⟩):=by simpa [Act.eval] using e15
    have e16:b.eval (.tmp 16) = .int .i64 (kq:Nat):=by rw [hbe,eval_out _ _ _ (by decide),ha0]; rfl
    have t16:b.tmps[16]?.getD undef = .int .i64 (kq:Nat):=by simpa [Act.eval] using e16
    have e17:b.eval (.tmp 17) = .int .i64 q:=by rw [hbe,eval_out _ _ _ (by decide),ha0]; rfl
    have t17:b.tmps[17]?.getD undef = .int .i64 q:=by simpa [Act.eval] using e17
    have evc:∀ v,b.eval (.const v) = v:=fun _ => rfl
    clear hbq
    have hi':i < 22:=hi
    clear hi
    obtain rfl | rfl | rfl | rfl | rfl | rfl | rfl | rfl | rfl | rfl | rfl | rfl | rfl | rfl | rfl | rfl | rfl | rfl | rfl | rfl | rfl | rfl:i = 0 ∨ i = 1 ∨ i = 2 ∨ i = 3 ∨ i = 4 ∨ i = 5 ∨ i = 6 ∨ i = 7 ∨ i = 8 ∨ i = 9 ∨ i = 10 ∨ i = 11 ∨ i = 12 ∨ i = 13 ∨ i = 14 ∨ i = 15 ∨ i = 16 ∨ i = 17 ∨ i = 18 ∨ i = 19 ∨ i = 20 ∨ i = 21:=by omega
    ·have bq:=ba.below hBw ba.lt
     have n_0:w'.cell? ⟨Ba,0,none⟩ = some (.slice A2 n2 c2):=bq.cell 0
     have n_1:w'.cell? ⟨Ba,1,none⟩ = some (.slice A3 n3 c3):=bq.cell 1
     have n_2:w'.cell? ⟨Ba,2,none⟩ = some (.int .i64 a.clk):=bq.cell 2
     have n_3:w'.cell? ⟨Ba,3,none⟩ = some (.int .i64 a.ver):=bq.cell 3
     refine wpOp_runs (v:=.agg #[.slice A2 n2 c2,.slice A3 n3 c3,.int .i64 a.clk,.int .i64 a.ver]) rfl rfl (by simp [execOp,go_sem,t12,n_0,n_1,n_2,n_3]) ⟨_,_,rfl,rfl,⟨hBw,fun _ => upd_same _ _ _,kE f1 rfl,kE f2 rfl,kE f3 rfl,kE f4 rfl,kE f5 rfl,kE f6 rfl,kE f7 rfl,kE f8 rfl,kE f9 rfl,kE f10 rfl,kE f11 rfl,kE f12 rfl,kE f13 rfl,kE f14 rfl,kE f15 rfl,fun h => by obtain hrl:=f16 (by rw [← getD_set_ne true (show 0 ≠ 16 by decide)]; exact h); exact (by rw [upd_ne x _ (by decide)]; exact hrl),kE f17 rfl,fun h => by obtain hrl:=f18 (by rw [← getD_set_ne true (show 0 ≠ 18 by decide)]; exact h); exact (by rw [upd_ne x _ (by decide)]; exact hrl),kE f19 rfl,kE f20 rfl,kE f21 rfl⟩⟩
    ·have bq:=bb.below hBw bb.lt
     have n_0:w'.cell? ⟨Bb,0,none⟩ = some (.slice A4 n4 c4):=bq.cell 0
     have n_1:w'.cell? ⟨Bb,1,none⟩ = some (.slice Ab nb cb):=bq.cell 1
     have n_2:w'.cell? ⟨Bb,2,none⟩ = some (.int .i64 a.clk):=bq.cell 2
     have n_3:w'.cell? ⟨Bb,3,none⟩ = some (.int .i64 a.ver):=bq.cell 3
     refine wpOp_runs (v:=.agg #[.slice A4 n4 c4,.slice Ab nb cb,.int .i64 a.clk,.int .i64 a.ver]) rfl rfl (by simp [execOp,go_sem,t15,n_0,n_1,n_2,n_3]) ⟨_,_,rfl,rfl,⟨hBw,kE f0 rfl,fun _ => upd_same _ _ _,kE f2 rfl,kE f3 rfl,kE f4 rfl,kE f5 rfl,kE f6 rfl,kE f7 rfl,kE f8 rfl,kE f9 rfl,kE f10 rfl,kE f11 rfl,kE f12 rfl,kE f13 rfl,kE f14 rfl,kE f15 rfl,fun h => by obtain hrl:=f16 (by rw [← getD_set_ne true (show 1 ≠ 16 by decide)]; exact h); exact (by rw [upd_ne x _ (by decide)]; exact hrl),kE f17 rfl,fun h => by obtain hrl:=f18 (by rw [← getD_set_ne true (show 1 ≠ 18 by decide)]; exact h); exact (by rw [upd_ne x _ (by decide)]; exact hrl),kE f19 rfl,kE f20 rfl,kE f21 rfl⟩⟩
    ·have d0:=getD_ft (haf _ rfl ⟨0,.data⟩ (by simp) rfl)
     have e104:b.eval (.tmp 104) = .agg #[.slice A2 n2 c2,.slice A3 n3 c3,.int .i64 a.clk,.int .i64 a.ver]:=by rw [hbe,eval_in _ _ _ 0 (by decide) rfl (by rw [hz0]; decide)]; exact f0 d0
     have t104:b.tmps[104]?.getD undef = .agg #[.slice A2 n2 c2,.slice A3 n3 c3,.int .i64 a.clk,.int .i64 a.ver]:=by have tv:=e104; simpa only [Act.eval,Array.getD_eq_getD_getElem?] using tv
     have d1:=getD_ft (haf _ rfl ⟨1,.data⟩ (by simp) rfl)
     have e105:b.eval (.tmp 105) = .agg #[.slice A4 n4 c4,.slice Ab nb cb,.int .i64 a.clk,.int .i64 a.ver]:=by rw [hbe,eval_in _ _ _ 1 (by decide) rfl (by rw [hz0]; decide)]; exact f1 d1
     have t105:b.tmps[105]?.getD undef = .agg #[.slice A4 n4 c4,.slice Ab nb cb,.int .i64 a.clk,.int .i64 a.ver]:=by have tv:=e105; simpa only [Act.eval,Array.getD_eq_getD_getElem?] using tv
     refine wpOp_call_on rfl (by simp [Region.wanted]) 15 #[.tmp 104,.tmp 105] _ rfl #[.agg #[.slice A2 n2 c2,.slice A3 n3 c3,.int .i64 a.clk,.int .i64 a.ver],.agg #[.slice A4 n4 c4,.slice Ab nb cb,.int .i64 a.clk,.int .i64 a.ver]] (by simp [e104,e105]) Tryz.func15 rfl rfl ?_
     refine (rpsame_any A2 n2 c2 A3 n3 c3 a A4 n4 c4 Ab nb cb a w' (hq.up hBw) (hr.up hBw) true (samePB_refl a)).mono ?_
     rintro e w'' ⟨rfl,hb⟩
     exact ⟨_,rfl,_,_,rfl,rfl,⟨hBw.trans (hb.mono hBw.size),kE f0 rfl,kE f1 rfl,fun _ => upd_same _ _ _,kE f3 rfl,kE f4 rfl,kE f5 rfl,kE f6 rfl,kE f7 rfl,kE f8 rfl,kE f9 rfl,kE f10 rfl,kE f11 rfl,kE f12 rfl,kE f13 rfl,kE f14 rfl,kE f15 rfl,fun h => by obtain hrl:=f16 (by rw [← getD_set_ne true (show 2 ≠ 16 by decide)]; exact h); exact (by rw [upd_ne x _ (by decide)]; exact hrl.below hb),kE f17 rfl,fun h => by obtain hrl:=f18 (by rw [← getD_set_ne true (show 2 ≠ 18 by decide)]; exact h); exact (by rw [upd_ne x _ (by decide)]; exact hrl.below hb),kE f19 rfl,kE f20 rfl,kE f21 rfl⟩⟩
    ·have d2:=getD_ft (haf _ rfl ⟨2,.data⟩ (by simp) rfl)
     have e106:b.eval (.tmp 106) = .bool true:=by rw [hbe,eval_in _ _ _ 2 (by decide) rfl (by rw [hz0]; decide)]; exact f2 d2
     have t106:b.tmps[106]?.getD undef = .bool true:=by have tv:=e106; simpa only [Act.eval,Array.getD_eq_getD_getElem?] using tv
     refine wpOp_runs (v:=.bool false) rfl rfl (by simp [execOp,go_sem,t106]) ⟨_,_,rfl,rfl,⟨hBw,kE f0 rfl,kE f1 rfl,kE f2 rfl,fun _ => upd_same _ _ _,kE f4 rfl,kE f5 rfl,kE f6 rfl,kE f7 rfl,kE f8 rfl,kE f9 rfl,kE f10 rfl,kE f11 rfl,kE f12 rfl,kE f13 rfl,kE f14 rfl,kE f15 rfl,fun h => by obtain hrl:=f16 (by rw [← getD_set_ne true (show 3 ≠ 16 by decide)]; exact h); exact (by rw [upd_ne x _ (by decide)]; exact hrl),kE f17 rfl,fun h => by obtain hrl:=f18 (by rw [← getD_set_ne true (show 3 ≠ 18 by decide)]; exact h); exact (by rw [upd_ne x _ (by decide)]; exact hrl),kE f19 rfl,kE f20 rfl,kE f21 rfl⟩⟩
    ·have d3:=getD_ft (haf _ rfl ⟨3,.data⟩ (by simp) rfl)
     have e107:b.eval (.tmp 107) = .bool false:=by rw [hbe,eval_in _ _ _ 3 (by decide) rfl (by rw [hz0]; decide)]; exact f3 d3
     have t107:b.tmps[107]?.getD undef = .bool false:=by have tv:=e107; simpa only [Act.eval,Array.getD_eq_getD_getElem?] using tv
     refine wpOp_runs (v:=.bool false) rfl rfl (by simp [execOp,go_sem,t107]) ⟨_,_,rfl,rfl,⟨hBw,kE f0 rfl,kE f1 rfl,kE f2 rfl,kE f3 rfl,fun _ => upd_same _ _ _,kE f5 rfl,kE f6 rfl,kE f7 rfl,kE f8 rfl,kE f9 rfl,kE f10 rfl,kE f11 rfl,kE f12 rfl,kE f13 rfl,kE f14 rfl,kE f15 rfl,fun h => by obtain hrl:=f16 (by rw [← getD_set_ne true (show 4 ≠ 16 by decide)]; exact h); exact (by rw [upd_ne x _ (by decide)]; exact hrl),kE f17 rfl,fun h => by obtain hrl:=f18 (by rw [← getD_set_ne true (show 4 ≠ 18 by decide)]; exact h); exact (by rw [upd_ne x _ (by decide)]; exact hrl),kE f19 rfl,kE f20 rfl,kE f21 rfl⟩⟩
    ·have d4:=getD_ft (haf _ rfl ⟨4,.guard⟩ (by simp) rfl)
     have e108:b.eval (.tmp 108) = .bool false:=by rw [hbe,eval_in _ _ _ 4 (by decide) rfl (by rw [hz0]; decide)]; exact f4 d4
     have t108:b.tmps[108]?.getD undef = .bool false:=by have tv:=e108; simpa only [Act.eval,Array.getD_eq_getD_getElem?] using tv
     refine wpOp_runs_on (v:=.int .i64 (kq:Nat)) rfl (wanted_on rfl rfl rfl t108) (by simp [execOp,go_sem,t13]) ⟨_,_,rfl,rfl,⟨hBw,kE f0 rfl,kE f1 rfl,kE f2 rfl,kE f3 rfl,kE f4 rfl,fun _ => upd_same _ _ _,kE f6 rfl,kE f7 rfl,kE f8 rfl,kE f9 rfl,kE f10 rfl,kE f11 rfl,kE f12 rfl,kE f13 rfl,kE f14 rfl,kE f15 rfl,fun h => by obtain hrl:=f16 (by rw [← getD_set_ne true (show 5 ≠ 16 by decide)]; exact h); exact (by rw [upd_ne x _ (by decide)]; exact hrl),kE f17 rfl,fun h => by obtain hrl:=f18 (by rw [← getD_set_ne true (show 5 ≠ 18 by decide)]; exact h); exact (by rw [upd_ne x _ (by decide)]; exact hrl),kE f19 rfl,kE f20 rfl,kE f21 rfl⟩⟩
    ·have d4:=getD_ft (haf _ rfl ⟨4,.guard⟩ (by simp) rfl)
     have e108:b.eval (.tmp 108) = .bool false:=by rw [hbe,eval_in _ _ _ 4 (by decide) rfl (by rw [hz0]; decide)]; exact f4 d4
     have t108:b.tmps[108]?.getD undef = .bool false:=by have tv:=e108; simpa only [Act.eval,Array.getD_eq_getD_getElem?] using tv
     refine wpOp_runs_on (v:=.int .i64 (kq:Nat)) rfl (wanted_on rfl rfl rfl t108) (by simp [execOp,go_sem,t16]) ⟨_,_,rfl,rfl,⟨hBw,kE f0 rfl,kE f1 rfl,kE f2 rfl,kE f3 rfl,kE f4 rfl,kE f5 rfl,fun _ => upd_same _ _ _,kE f7 rfl,kE f8 rfl,kE f9 rfl,kE f10 rfl,kE f11 rfl,kE f12 rfl,kE f13 rfl,kE f14 rfl,kE f15 rfl,fun h => by obtain hrl:=f16 (by rw [← getD_set_ne true (show 6 ≠ 16 by decide)]; exact h); exact (by rw [upd_ne x _ (by decide)]; exact hrl),kE f17 rfl,fun h => by obtain hrl:=f18 (by rw [← getD_set_ne true (show 6 ≠ 18 by decide)]; exact h); exact (by rw [upd_ne x _ (by decide)]; exact hrl),kE f19 rfl,kE f20 rfl,kE f21 rfl⟩⟩
    ·have d4:=getD_ft (haf _ rfl ⟨4,.guard⟩ (by simp) rfl)
     have e108:b.eval (.tmp 108) = .bool false:=by rw [hbe,eval_in _ _ _ 4 (by decide) rfl (by rw [hz0]; decide)]; exact f4 d4
     have t108:b.tmps[108]?.getD undef = .bool false:=by have tv:=e108; simpa only [Act.eval,Array.getD_eq_getD_getElem?] using tv
     have d5:=getD_ft (haf _ rfl ⟨5,.data⟩ (by simp) rfl)
     have e109:b.eval (.tmp 109) = .int .i64 (kq:Nat):=by rw [hbe,eval_in _ _ _ 5 (by decide) rfl (by rw [hz0]; decide)]; exact f5 d5
     have t109:b.tmps[109]?.getD undef = .int .i64 (kq:Nat):=by have tv:=e109; simpa only [Act.eval,Array.getD_eq_getD_getElem?] using tv
     have d6:=getD_ft (haf _ rfl ⟨6,.data⟩ (by simp) rfl)
     have e110:b.eval (.tmp 110) = .int .i64 (kq:Nat):=by rw [hbe,eval_in _ _ _ 6 (by decide) rfl (by rw [hz0]; decide)]; exact f6 d6
     have t110:b.tmps[110]?.getD undef = .int .i64 (kq:Nat):=by have tv:=e110; simpa only [Act.eval,Array.getD_eq_getD_getElem?] using tv
     refine wpOp_runs_on (v:=.bool false) rfl (wanted_on rfl rfl rfl t108) (by simp [execOp,go_sem,t109,t110]) ⟨_,_,rfl,rfl,⟨hBw,kE f0 rfl,kE f1 rfl,kE f2 rfl,kE f3 rfl,kE f4 rfl,kE f5 rfl,kE f6 rfl,fun _ => upd_same _ _ _,kE f8 rfl,kE f9 rfl,kE f10 rfl,kE f11 rfl,kE f12 rfl,kE f13 rfl,kE f14 rfl,kE f15 rfl,fun h => by obtain hrl:=f16 (by rw [← getD_set_ne true (show 7 ≠ 16 by decide)]; exact h); exact (by rw [upd_ne x _ (by decide)]; exact hrl),kE f17 rfl,fun h => by obtain hrl:=f18 (by rw [← getD_set_ne true (show 7 ≠ 18 by decide)]; exact h); exact (by rw [upd_ne x _ (by decide)]; exact hrl),kE f19 rfl,kE f20 rfl,kE f21 rfl⟩⟩
    ·have d4:=getD_ft (haf _ rfl ⟨4,.data⟩ (by simp) rfl)
     have e108:b.eval (.tmp 108) = .bool false:=by rw [hbe,eval_in _ _ _ 4 (by decide) rfl (by rw [hz0]; decide)]; exact f4 d4
     have t108:b.tmps[108]?.getD undef = .bool false:=by have tv:=e108; simpa only [Act.eval,Array.getD_eq_getD_getElem?] using tv
     have d7:=getD_ft (haf _ rfl ⟨7,.data⟩ (by simp) rfl)
     have e111:b.eval (.tmp 111) = .bool false:=by rw [hbe,eval_in _ _ _ 7 (by decide) rfl (by rw [hz0]; decide)]; exact f7 d7
     have t111:b.tmps[111]?.getD undef = .bool false:=by have tv:=e111; simpa only [Act.eval,Array.getD_eq_getD_getElem?] using tv
     refine wpOp_runs (v:=.bool false) rfl rfl (by simp [execOp,go_sem,t108,t111]) ⟨_,_,rfl,rfl,⟨hBw,kE f0 rfl,kE f1 rfl,kE f2 rfl,kE f3 rfl,kE f4 rfl,kE f5 rfl,kE f6 rfl,kE f7 rfl,fun _ => upd_same _ _ _,kE f9 rfl,kE f10 rfl,kE f11 rfl,kE f12 rfl,kE f13 rfl,kE f14 rfl,kE f15 rfl,fun h => by obtain hrl:=f16 (by rw [← getD_set_ne true (show 8 ≠ 16 by decide)]; exact h); exact (by rw [upd_ne x _ (by decide)]; exact hrl),kE f17 rfl,fun h => by obtain hrl:=f18 (by rw [← getD_set_ne true (show 8 ≠ 18 by decide)]; exact h); exact (by rw [upd_ne x _ (by decide)]; exact hrl),kE f19 rfl,kE f20 rfl,kE f21 rfl⟩⟩
    ·have d8:=getD_ft (haf _ rfl ⟨8,.data⟩ (by simp) rfl)
     have e112:b.eval (.tmp 112) = .bool false:=by rw [hbe,eval_in _ _ _ 8 (by decide) rfl (by rw [hz0]; decide)]; exact f8 d8
     have t112:b.tmps[112]?.getD undef = .bool false:=by have tv:=e112; simpa only [Act.eval,Array.getD_eq_getD_getElem?] using tv
     refine wpOp_runs (v:=.bool false) rfl rfl (by simp [execOp,go_sem,t112]) ⟨_,_,rfl,rfl,⟨hBw,kE f0 rfl,kE f1 rfl,kE f2 rfl,kE f3 rfl,kE f4 rfl,kE f5 rfl,kE f6 rfl,kE f7 rfl,kE f8 rfl,fun _ => upd_same _ _ _,kE f10 rfl,kE f11 rfl,kE f12 rfl,kE f13 rfl,kE f14 rfl,kE f15 rfl,fun h => by obtain hrl:=f16 (by rw [← getD_set_ne true (show 9 ≠ 16 by decide)]; exact h); exact (by rw [upd_ne x _ (by decide)]; exact hrl),kE f17 rfl,fun h => by obtain hrl:=f18 (by rw [← getD_set_ne true (show 9 ≠ 18 by decide)]; exact h); exact (by rw [upd_ne x _ (by decide)]; exact hrl),kE f19 rfl,kE f20 rfl,kE f21 rfl⟩⟩
    ·have d9:=getD_ft (haf _ rfl ⟨9,.guard⟩ (by simp) rfl)
     have e113:b.eval (.tmp 113) = .bool false:=by rw [hbe,eval_in _ _ _ 9 (by decide) rfl (by rw [hz0]; decide)]; exact f9 d9
     have t113:b.tmps[113]?.getD undef = .bool false:=by have tv:=e113; simpa only [Act.eval,Array.getD_eq_getD_getElem?] using tv
     refine wpOp_runs_on (v:=.int .i64 q) rfl (wanted_on rfl rfl rfl t113) (by simp [execOp,go_sem,t14]) ⟨_,_,rfl,rfl,⟨hBw,kE f0 rfl,kE f1 rfl,kE f2 rfl,kE f3 rfl,kE f4 rfl,kE f5 rfl,kE f6 rfl,kE f7 rfl,kE f8 rfl,kE f9 rfl,fun _ => upd_same _ _ _,kE f11 rfl,kE f12 rfl,kE f13 rfl,kE f14 rfl,kE f15 rfl,fun h => by obtain hrl:=f16 (by rw [← getD_set_ne true (show 10 ≠ 16 by decide)]; exact h); exact (by rw [upd_ne x _ (by decide)]; exact hrl),kE f17 rfl,fun h => by obtain hrl:=f18 (by rw [← getD_set_ne true (show 10 ≠ 18 by decide)]; exact h); exact (by rw [upd_ne x _ (by decide)]; exact hrl),kE f19 rfl,kE f20 rfl,kE f21 rfl⟩⟩
    ·have d9:=getD_ft (haf _ rfl ⟨9,.guard⟩ (by simp) rfl)
     have e113:b.eval (.tmp 113) = .bool false:=by rw [hbe,eval_in _ _ _ 9 (by decide) rfl (by rw [hz0]; decide)]; exact f9 d9
     have t113:b.tmps[113]?.getD undef = .bool false:=by have tv:=e113; simpa only [Act.eval,Array.getD_eq_getD_getElem?] using tv
     refine wpOp_runs_on (v:=.int .i64 q) rfl (wanted_on rfl rfl rfl t113) (by simp [execOp,go_sem,t17]) ⟨_,_,rfl,rfl,⟨hBw,kE f0 rfl,kE f1 rfl,kE f2 rfl,kE f3 rfl,kE f4 rfl,kE f5 rfl,kE f6 rfl,kE f7 rfl,kE f8 rfl,kE f9 rfl,kE f10 rfl,fun _ => upd_same _ _ _,kE f12 rfl,kE f13 rfl,kE f14 rfl,kE f15 rfl,fun h => by obtain hrl:=f16 (by rw [← getD_set_ne true (show 11 ≠ 16 by decide)]; exact h); exact (by rw [upd_ne x _ (by decide)]; exact hrl),kE f17 rfl,fun h => by obtain hrl:=f18 (by rw [← getD_set_ne true (show 11 ≠ 18 by decide)]; exact h); exact (by rw [upd_ne x _ (by decide)]; exact hrl),kE f19 rfl,kE f20 rfl,kE f21 rfl⟩⟩
    ·have d9:=getD_ft (haf _ rfl ⟨9,.guard⟩ (by simp) rfl)
     have e113:b.eval (.tmp 113) = .bool false:=by rw [hbe,eval_in _ _ _ 9 (by decide) rfl (by rw [hz0]; decide)]; exact f9 d9
     have t113:b.tmps[113]?.getD undef = .bool false:=by have tv:=e113; simpa only [Act.eval,Array.getD_eq_getD_getElem?] using tv
     have d10:=getD_ft (haf _ rfl ⟨10,.data⟩ (by simp) rfl)
     have e114:b.eval (.tmp 114) = .int .i64 q:=by rw [hbe,eval_in _ _ _ 10 (by decide) rfl (by rw [hz0]; decide)]; exact f10 d10
     have t114:b.tmps[114]?.getD undef = .int .i64 q:=by have tv:=e114; simpa only [Act.eval,Array.getD_eq_getD_getElem?] using tv
     have d11:=getD_ft (haf _ rfl ⟨11,.data⟩ (by simp) rfl)
     have e115:b.eval (.tmp 115) = .int .i64 q:=by rw [hbe,eval_in _ _ _ 11 (by decide) rfl (by rw [hz0]; decide)]; exact f11 d11
     have t115:b.tmps[115]?.getD undef = .int .i64 q:=by have tv:=e115; simpa only [Act.eval,Array.getD_eq_getD_getElem?] using tv
     refine wpOp_runs_on (v:=.bool false) rfl (wanted_on rfl rfl rfl t113) (by simp [execOp,go_sem,t114,t115]) ⟨_,_,rfl,rfl,⟨hBw,kE f0 rfl,kE f1 rfl,kE f2 rfl,kE f3 rfl,kE f4 rfl,kE f5 rfl,kE f6 rfl,kE f7 rfl,kE f8 rfl,kE f9 rfl,kE f10 rfl,kE f11 rfl,fun _ => upd_same _ _ _,kE f13 rfl,kE f14 rfl,kE f15 rfl,fun h => by obtain hrl:=f16 (by rw [← getD_set_ne true (show 12 ≠ 16 by decide)]; exact h); exact (by rw [upd_ne x _ (by decide)]; exact hrl),kE f17 rfl,fun h => by obtain hrl:=f18 (by rw [← getD_set_ne true (show 12 ≠ 18 by decide)]; exact h); exact (by rw [upd_ne x _ (by decide)]; exact hrl),kE f19 rfl,kE f20 rfl,kE f21 rfl⟩⟩
    ·have d9:=getD_ft (haf _ rfl ⟨9,.data⟩ (by simp) rfl)
     have e113:b.eval (.tmp 113) = .bool false:=by rw [hbe,eval_in _ _ _ 9 (by decide) rfl (by rw [hz0]; decide)]; exact f9 d9
     have t113:b.tmps[113]?.getD undef = .bool false:=by have tv:=e113; simpa only [Act.eval,Array.getD_eq_getD_getElem?] using tv
     have d12:=getD_ft (haf _ rfl ⟨12,.data⟩ (by simp) rfl)
     have e116:b.eval (.tmp 116) = .bool false:=by rw [hbe,eval_in _ _ _ 12 (by decide) rfl (by rw [hz0]; decide)]; exact f12 d12
     have t116:b.tmps[116]?.getD undef = .bool false:=by have tv:=e116; simpa only [Act.eval,Array.getD_eq_getD_getElem?] using tv
     refine wpOp_runs (v:=.bool false) rfl rfl (by simp [execOp,go_sem,t113,t116]) ⟨_,_,rfl,rfl,⟨hBw,kE f0 rfl,kE f1 rfl,kE f2 rfl,kE f3 rfl,kE f4 rfl,kE f5 rfl,kE f6 rfl,kE f7 rfl,kE f8 rfl,kE f9 rfl,kE f10 rfl,kE f11 rfl,kE f12 rfl,fun _ => upd_same _ _ _,kE f14 rfl,kE f15 rfl,fun h => by obtain hrl:=f16 (by rw [← getD_set_ne true (show 13 ≠ 16 by decide)]; exact h); exact (by rw [upd_ne x _ (by decide)]; exact hrl),kE f17 rfl,fun h => by obtain hrl:=f18 (by rw [← getD_set_ne true (show 13 ≠ 18 by decide)]; exact h); exact (by rw [upd_ne x _ (by decide)]; exact hrl),kE f19 rfl,kE f20 rfl,kE f21 rfl⟩⟩
    ·have d13:=getD_ft (haf _ rfl ⟨13,.data⟩ (by simp) rfl)
     have e117:b.eval (.tmp 117) = .bool false:=by rw [hbe,eval_in _ _ _ 13 (by decide) rfl (by rw [hz0]; decide)]; exact f13 d13
     have t117:b.tmps[117]?.getD undef = .bool false:=by have tv:=e117; simpa only [Act.eval,Array.getD_eq_getD_getElem?] using tv
     refine wpOp_runs (v:=.bool false) rfl rfl (by simp [execOp,go_sem,t117]) ⟨_,_,rfl,rfl,⟨hBw,kE f0 rfl,kE f1 rfl,kE f2 rfl,kE f3 rfl,kE f4 rfl,kE f5 rfl,kE f6 rfl,kE f7 rfl,kE f8 rfl,kE f9 rfl,kE f10 rfl,kE f11 rfl,kE f12 rfl,kE f13 rfl,fun _ => upd_same _ _ _,kE f15 rfl,fun h => by obtain hrl:=f16 (by rw [← getD_set_ne true (show 14 ≠ 16 by decide)]; exact h); exact (by rw [upd_ne x _ (by decide)]; exact hrl),kE f17 rfl,fun h => by obtain hrl:=f18 (by rw [← getD_set_ne true (show 14 ≠ 18 by decide)]; exact h); exact (by rw [upd_ne x _ (by decide)]; exact hrl),kE f19 rfl,kE f20 rfl,kE f21 rfl⟩⟩
    ·have d14:=getD_ft (haf _ rfl ⟨14,.guard⟩ (by simp) rfl)
     have e118:b.eval (.tmp 118) = .bool false:=by rw [hbe,eval_in _ _ _ 14 (by decide) rfl (by rw [hz0]; decide)]; exact f14 d14
     have t118:b.tmps[118]?.getD undef = .bool false:=by have tv:=e118; simpa only [Act.eval,Array.getD_eq_getD_getElem?] using tv
     have bq:=hP.below hBw hP.lt
     have n_0:w'.cell? ⟨w.heap.size,0,none⟩ = some (.slice A1 n1 c1):=bq.cell 0
     have n_1:w'.cell? ⟨w.heap.size,1,none⟩ = some (.slice A n c):=bq.cell 1
     have n_2:w'.cell? ⟨w.heap.size,2,none⟩ = some (.int .i64 p.clk):=bq.cell 2
     have n_3:w'.cell? ⟨w.heap.size,3,none⟩ = some (.int .i64 p.ver):=bq.cell 3
     refine wpOp_runs_on (v:=.agg #[.slice A1 n1 c1,.slice A n c,.int .i64 p.clk,.int .i64 p.ver]) rfl (wanted_on rfl rfl rfl t118) (by simp [execOp,go_sem,t3,n_0,n_1,n_2,n_3]) ⟨_,_,rfl,rfl,⟨hBw,kE f0 rfl,kE f1 rfl,kE f2 rfl,kE f3 rfl,kE f4 rfl,kE f5 rfl,kE f6 rfl,kE f7 rfl,kE f8 rfl,kE f9 rfl,kE f10 rfl,kE f11 rfl,kE f12 rfl,kE f13 rfl,kE f14 rfl,fun _ => upd_same _ _ _,fun h => by obtain hrl:=f16 (by rw [← getD_set_ne true (show 15 ≠ 16 by decide)]; exact h); exact (by rw [upd_ne x _ (by decide)]; exact hrl),kE f17 rfl,fun h => by obtain hrl:=f18 (by rw [← getD_set_ne true (show 15 ≠ 18 by decide)]; exact h); exact (by rw [upd_ne x _ (by decide)]; exact hrl),kE f19 rfl,kE f20 rfl,kE f21 rfl⟩⟩
    ·have d14:=getD_ft (haf _ rfl ⟨14,.guard⟩ (by simp) rfl)
     have e118:b.eval (.tmp 118) = .bool false:=by rw [hbe,eval_in _ _ _ 14 (by decide) rfl (by rw [hz0]; decide)]; exact f14 d14
     have t118:b.tmps[118]?.getD undef = .bool false:=by have tv:=e118; simpa only [Act.eval,Array.getD_eq_getD_getElem?] using tv
     have d15:=getD_ft (haf _ rfl ⟨15,.data⟩ (by simp) rfl)
     have e119:b.eval (.tmp 119) = .agg #[.slice A1 n1 c1,.slice A n c,.int .i64 p.clk,.int .i64 p.ver]:=by rw [hbe,eval_in _ _ _ 15 (by decide) rfl (by rw [hz0]; decide)]; exact f15 d15
     have t119:b.tmps[119]?.getD undef = .agg #[.slice A1 n1 c1,.slice A n c,.int .i64 p.clk,.int .i64 p.ver]:=by have tv:=e119; simpa only [Act.eval,Array.getD_eq_getD_getElem?] using tv
     refine wpOp_call_on rfl (wanted_on rfl rfl rfl t118) 20 #[.tmp 119] _ rfl #[.agg #[.slice A1 n1 c1,.slice A n c,.int .i64 p.clk,.int .i64 p.ver]] (by simp [e119]) Tryz.func20 rfl rfl ?_
     refine (plist_any A1 n1 c1 A n c p w' (hp.up hBw)).mono ?_
     rintro e w'' ⟨v9,rfl,hr9,hb⟩
     exact ⟨_,rfl,_,_,rfl,rfl,⟨hBw.trans (hb.mono hBw.size),kE f0 rfl,kE f1 rfl,kE f2 rfl,kE f3 rfl,kE f4 rfl,kE f5 rfl,kE f6 rfl,kE f7 rfl,kE f8 rfl,kE f9 rfl,kE f10 rfl,kE f11 rfl,kE f12 rfl,kE f13 rfl,kE f14 rfl,kE f15 rfl,fun _ => (by rw [upd_same]; exact (DrL.of_own hr9 (by simp [listP,hp.l,hp.l1]))),kE f17 rfl,fun h => by obtain hrl:=f18 (by rw [← getD_set_ne true (show 16 ≠ 18 by decide)]; exact h); exact (by rw [upd_ne x _ (by decide)]; exact hrl.below hb),kE f19 rfl,kE f20 rfl,kE f21 rfl⟩⟩
    ·have d14:=getD_ft (haf _ rfl ⟨14,.guard⟩ (by simp) rfl)
     have e118:b.eval (.tmp 118) = .bool false:=by rw [hbe,eval_in _ _ _ 14 (by decide) rfl (by rw [hz0]; decide)]; exact f14 d14
     have t118:b.tmps[118]?.getD undef = .bool false:=by have tv:=e118; simpa only [Act.eval,Array.getD_eq_getD_getElem?] using tv
     have bq:=hP.below hBw hP.lt
     have n_0:w'.cell? ⟨w.heap.size,0,none⟩ = some (.slice A1 n1 c1):=bq.cell 0
     have n_1:w'.cell? ⟨w.heap.size,1,none⟩ = some (.slice A n c):=bq.cell 1
     have n_2:w'.cell? ⟨w.heap.size,2,none⟩ = some (.int .i64 p.clk):=bq.cell 2
     have n_3:w'.cell? ⟨w.heap.size,3,none⟩ = some (.int .i64 p.ver):=bq.cell 3
     refine wpOp_runs_on (v:=.agg #[.slice A1 n1 c1,.slice A n c,.int .i64 p.clk,.int .i64 p.ver]) rfl (wanted_on rfl rfl rfl t118) (by simp [execOp,go_sem,t3,n_0,n_1,n_2,n_3]) ⟨_,_,rfl,rfl,⟨hBw,kE f0 rfl,kE f1 rfl,kE f2 rfl,kE f3 rfl,kE f4 rfl,kE f5 rfl,kE f6 rfl,kE f7 rfl,kE f8 rfl,kE f9 rfl,kE f10 rfl,kE f11 rfl,kE f12 rfl,kE f13 rfl,kE f14 rfl,kE f15 rfl,fun h => by obtain hrl:=f16 (by rw [← getD_set_ne true (show 17 ≠ 16 by decide)]; exact h); exact (by rw [upd_ne x _ (by decide)]; exact hrl),fun _ => upd_same _ _ _,fun h => by obtain hrl:=f18 (by rw [← getD_set_ne true (show 17 ≠ 18 by decide)]; exact h); exact (by rw [upd_ne x _ (by decide)]; exact hrl),kE f19 rfl,kE f20 rfl,kE f21 rfl⟩⟩
    ·have d14:=getD_ft (haf _ rfl ⟨14,.guard⟩ (by simp) rfl)
     have e118:b.eval (.tmp 118) = .bool false:=by rw [hbe,eval_in _ _ _ 14 (by decide) rfl (by rw [hz0]; decide)]; exact f14 d14
     have t118:b.tmps[118]?.getD undef = .bool false:=by have tv:=e118; simpa only [Act.eval,Array.getD_eq_getD_getElem?] using tv
     have d17:=getD_ft (haf _ rfl ⟨17,.data⟩ (by simp) rfl)
     have e121:b.eval (.tmp 121) = .agg #[.slice A1 n1 c1,.slice A n c,.int .i64 p.clk,.int .i64 p.ver]:=by rw [hbe,eval_in _ _ _ 17 (by decide) rfl (by rw [hz0]; decide)]; exact f17 d17
     have t121:b.tmps[121]?.getD undef = .agg #[.slice A1 n1 c1,.slice A n c,.int .i64 p.clk,.int .i64 p.ver]:=by have tv:=e121; simpa only [Act.eval,Array.getD_eq_getD_getElem?] using tv
     refine wpOp_call_on rfl (wanted_on rfl rfl rfl t118) 21 #[.tmp 121] _ rfl #[.agg #[.slice A1 n1 c1,.slice A n c,.int .i64 p.clk,.int .i64 p.ver]] (by simp [e121]) Tryz.func21 rfl rfl ?_
     refine (rplist_any A1 n1 c1 A n c p w' (hp.up hBw)).mono ?_
     rintro e w'' ⟨v9,rfl,hr9,hb⟩
     exact ⟨_,rfl,_,_,rfl,rfl,⟨hBw.trans (hb.mono hBw.size),kE f0 rfl,kE f1 rfl,kE f2 rfl,kE f3 rfl,kE f4 rfl,kE f5 rfl,kE f6 rfl,kE f7 rfl,kE f8 rfl,kE f9 rfl,kE f10 rfl,kE f11 rfl,kE f12 rfl,kE f13 rfl,kE f14 rfl,kE f15 rfl,fun h => by obtain hrl:=f16 (by rw [← getD_set_ne true (show 18 ≠ 16 by decide)]; exact h); exact (by rw [upd_ne x _ (by decide)]; exact hrl.below hb),kE f17 rfl,fun _ => (by rw [upd_same]; exact (DrL.of_own hr9 (by simp [listP,hp.l,hp.l1]))),kE f19 rfl,kE f20 rfl,kE f21 rfl⟩⟩
    ·have d14:=getD_ft (haf _ rfl ⟨14,.guard⟩ (by simp) rfl)
     have e118:b.eval (.tmp 118) = .bool false:=by rw [hbe,eval_in _ _ _ 14 (by decide) rfl (by rw [hz0]; decide)]; exact f14 d14
     have t118:b.tmps[118]?.getD undef = .bool false:=by have tv:=e118; simpa only [Act.eval,Array.getD_eq_getD_getElem?] using tv
     have d16:=getD_ft (haf _ rfl ⟨16,.data⟩ (by simp) rfl)
     have q16:=f16 d16
     have e120:b.eval (.tmp 120) = x 16:=by rw [hbe,eval_in _ _ _ 16 (by decide) rfl (by rw [hz0]; decide)]
     have t120:b.tmps[120]?.getD undef = x 16:=by have tv:=e120; simpa only [Act.eval,Array.getD_eq_getD_getElem?] using tv
     have d18:=getD_ft (haf _ rfl ⟨18,.data⟩ (by simp) rfl)
     have q18:=f18 d18
     have e122:b.eval (.tmp 122) = x 18:=by rw [hbe,eval_in _ _ _ 18 (by decide) rfl (by rw [hz0]; decide)]
     have t122:b.tmps[122]?.getD undef = x 18:=by have tv:=e122; simpa only [Act.eval,Array.getD_eq_getD_getElem?] using tv
     refine wpOp_call_on rfl (wanted_on rfl rfl rfl t118) 19 #[.tmp 120,.tmp 122] _ rfl #[x 16,x 18] (by simp [e120,e122]) Tryz.func19 rfl rfl ?_
     refine (dsameV q16 q18 (by have:=hp.l; have:=hp.l1; simp [listP]; omega)).mono ?_
     rintro e w'' ⟨rfl,hb⟩
     exact ⟨_,rfl,_,_,rfl,rfl,⟨hBw.trans (hb.mono hBw.size),kE f0 rfl,kE f1 rfl,kE f2 rfl,kE f3 rfl,kE f4 rfl,kE f5 rfl,kE f6 rfl,kE f7 rfl,kE f8 rfl,kE f9 rfl,kE f10 rfl,kE f11 rfl,kE f12 rfl,kE f13 rfl,kE f14 rfl,kE f15 rfl,fun h => by obtain hrl:=f16 (by rw [← getD_set_ne true (show 19 ≠ 16 by decide)]; exact h); exact (by rw [upd_ne x _ (by decide)]; exact hrl.below hb),kE f17 rfl,fun h => by obtain hrl:=f18 (by rw [← getD_set_ne true (show 19 ≠ 18 by decide)]; exact h); exact (by rw [upd_ne x _ (by decide)]; exact hrl.below hb),fun _ => upd_same _ _ _,kE f20 rfl,kE f21 rfl⟩⟩
    ·have d14:=getD_ft (haf _ rfl ⟨14,.guard⟩ (by simp) rfl)
     have e118:b.eval (.tmp 118) = .bool false:=by rw [hbe,eval_in _ _ _ 14 (by decide) rfl (by rw [hz0]; decide)]; exact f14 d14
     have t118:b.tmps[118]?.getD undef = .bool false:=by have tv:=e118; simpa only [Act.eval,Array.getD_eq_getD_getElem?] using tv
     have d19:=getD_ft (haf _ rfl ⟨19,.data⟩ (by simp) rfl)
     have e123:b.eval (.tmp 123) = .bool true:=by rw [hbe,eval_in _ _ _ 19 (by decide) rfl (by rw [hz0]; decide)]; exact f19 d19
     have t123:b.tmps[123]?.getD undef = .bool true:=by have tv:=e123; simpa only [Act.eval,Array.getD_eq_getD_getElem?] using tv
     refine wpOp_runs_on (v:=.bool false) rfl (wanted_on rfl rfl rfl t118) (by simp [execOp,go_sem,t123]) ⟨_,_,rfl,rfl,⟨hBw,kE f0 rfl,kE f1 rfl,kE f2 rfl,kE f3 rfl,kE f4 rfl,kE f5 rfl,kE f6 rfl,kE f7 rfl,kE f8 rfl,kE f9 rfl,kE f10 rfl,kE f11 rfl,kE f12 rfl,kE f13 rfl,kE f14 rfl,kE f15 rfl,fun h => by obtain hrl:=f16 (by rw [← getD_set_ne true (show 20 ≠ 16 by decide)]; exact h); exact (by rw [upd_ne x _ (by decide)]; exact hrl),kE f17 rfl,fun h => by obtain hrl:=f18 (by rw [← getD_set_ne true (show 20 ≠ 18 by decide)]; exact h); exact (by rw [upd_ne x _ (by decide)]; exact hrl),kE f19 rfl,fun _ => upd_same _ _ _,kE f21 rfl⟩⟩
    ·have d14:=getD_ft (haf _ rfl ⟨14,.data⟩ (by simp) rfl)
     have e118:b.eval (.tmp 118) = .bool false:=by rw [hbe,eval_in _ _ _ 14 (by decide) rfl (by rw [hz0]; decide)]; exact f14 d14
     have t118:b.tmps[118]?.getD undef = .bool false:=by have tv:=e118; simpa only [Act.eval,Array.getD_eq_getD_getElem?] using tv
     have d20:=getD_ft (haf _ rfl ⟨20,.data⟩ (by simp) rfl)
     have e124:b.eval (.tmp 124) = .bool false:=by rw [hbe,eval_in _ _ _ 20 (by decide) rfl (by rw [hz0]; decide)]; exact f20 d20
     have t124:b.tmps[124]?.getD undef = .bool false:=by have tv:=e124; simpa only [Act.eval,Array.getD_eq_getD_getElem?] using tv
     refine wpOp_runs (v:=.bool false) rfl rfl (by simp [execOp,go_sem,t118,t124]) ⟨_,_,rfl,rfl,⟨hBw,kE f0 rfl,kE f1 rfl,kE f2 rfl,kE f3 rfl,kE f4 rfl,kE f5 rfl,kE f6 rfl,kE f7 rfl,kE f8 rfl,kE f9 rfl,kE f10 rfl,kE f11 rfl,kE f12 rfl,kE f13 rfl,kE f14 rfl,kE f15 rfl,fun h => by obtain hrl:=f16 (by rw [← getD_set_ne true (show 21 ≠ 16 by decide)]; exact h); exact (by rw [upd_ne x _ (by decide)]; exact hrl),kE f17 rfl,fun h => by obtain hrl:=f18 (by rw [← getD_set_ne true (show 21 ≠ 18 by decide)]; exact h); exact (by rw [upd_ne x _ (by decide)]; exact hrl),kE f19 rfl,kE f20 rfl,fun _ => upd_same _ _ _⟩⟩
   intro V x w' hall hF
   obtain ⟨hbF,f0,f1,f2,f3,f4,f5,f6,f7,f8,f9,f10,f11,f12,f13,f14,f15,f16,f17,f18,f19,f20,f21⟩:=hF
   have hx21:=f21 (hall 21 (by decide))
   clear hall f0 f1 f2 f3 f4 f5 f6 f7 f8 f9 f10 f11 f12 f13 f14 f15 f16 f17 f18 f19 f20 f21
   subst ha0
   simp only [List.map_cons,List.map_nil,putAll,hx21]
   clear hx21
   go_simp
   have hb:=hbF
   clear hbF hq hr ba bb HEL HA HQ HWD
   replace hp:=hp.up hb
   replace hl:=hl.up hb
   replace hP:=hP.below hb hP.lt
   replace hB:=hB.trans (hb.mono hs)
   replace hs:=hB.size
   clear hb
   obtain ⟨p0,p1,p2,p3,lt_p⟩:=blok4 (show Blok _ _ _ #[.slice A1 n1 c1,.slice A n c,.int .i64 p.clk,.int .i64 p.ver] from hP)
   go_upto_region 20 with fail
   clear p0 p1 p2 p3 lt_p
   have hX:=Blok.new w' 25 #[.slice A1 n1 c1,.slice A n c,.int .i64 p.clk,.int .i64 p.ver]
   have hb5:Below w'.heap.size w' (w'.alloc (.cells #[.slice A1 n1 c1,.slice A n c,.int .i64 p.clk,.int .i64 p.ver] 25)):=by (repeat (first | exact Below.refl _ _ | refine Below.alloc ?_ (by first | omega | (simp; done) | (simp; omega)) _ | refine Below.setCell ?_ (by first | omega | (simp; done) | (simp; omega)) _ | refine Below.drew ?_))
   have hxl:=hp.up hb5
   generalize w'.alloc (.cells #[.slice A1 n1 c1,.slice A n c,.int .i64 p.clk,.int .i64 p.ver] 25) = w9 at *
   go_wp2_with fail
   have HLX:=Lib.hid (fun w'' (hb:Below w'.heap.size w' w'') => hl.up hb)
   have HBX:=Lib.hid hB
   obtain ⟨wX,hwX⟩:∃ z,z = w':=⟨_,rfl⟩
   subst hwX
   clear hl hp hP hB hs HLL HB0
   go_loopw [19] (fun iv wr => ∃ (j:Nat) (A5:Option Addr) (n5 c5:Nat) (A6:Option Addr) (n6 c6:Nat) (px:Pl),j ≤ i ∧ iv = .int .i64 j ∧ Hid (px.right = true) ∧ Blok wr wX.heap.size 25 #[.slice A5 n5 c5,.slice A6 n6 c6,.int .i64 px.clk,.int .i64 px.ver] ∧ PlAt wr A5 n5 c5 A6 n6 c6 px ∧ Below wX.heap.size wX wr) (fun iv _ => i - (intOf iv).toNat)
   case atStart => exact ⟨0,A1,n1,c1,A,n,c,p,by omega,rfl,HPR,hX,hxl,hb5⟩
   case round =>
    clear hX hxl hb5
    obtain ⟨j,A5,n5,c5,A6,n6,c6,px,hj,rfl,HXR,hX',hx,hB0⟩:=hrel
    have hs:=hB0.size
    by_cases hin:j < i
    ·obtain ⟨u,hu⟩:∃ u,gAp l j = u:=⟨_,rfl⟩
     obtain ⟨d,hd⟩:∃ d,dA u = d:=⟨_,rfl⟩
     have hwd:(Lit.int .i64 d.op).wf = true ∧ (Lit.int .i64 d.kd).wf = true:=by rw [← hd,← hu]; exact HWF.out j hin
     have HW:=Lib.hid hwd
     have hin2:(j:Int) < (i:Int):=by omega
     have hi0:(0:Int) ≤ (j:Int):=by omega
     have hlr:=HLX.out _ hB0
     obtain ⟨al,hA1,hab,hcs⟩:=hlr.lst.atAp HDL.out hin
     rw [hu] at hcs
     subst hA1
     obtain ⟨e0,e1,e2,e3,e4,e5,e6,e7,e8,e9,ea,eb,ec,ed,ee⟩:=hcs
     rw [show u.op = d.op from by rw [← hd]; rfl] at e1
     rw [show u.kd = d.kd from by rw [← hd]; rfl] at e2
     rw [show u.id = d.id from by rw [← hd]; rfl] at e3
     rw [show u.fr = d.fr from by rw [← hd]; rfl] at e4
     rw [show u.tn = d.tn from by rw [← hd]; rfl] at e5
     rw [show u.st = d.st from by rw [← hd]; rfl] at e6
     rw [show u.en = d.en from by rw [← hd]; rfl] at e7
     rw [show u.rt = d.rt from by rw [← hd]; rfl] at e8
     rw [show u.rf = d.rf from by rw [← hd]; rfl] at e9
     rw [show u.rn = d.rn from by rw [← hd]; rfl] at ea
     rw [show u.rs = d.rs from by rw [← hd]; rfl] at eb
     rw [show u.re = d.re from by rw [← hd]; rfl] at ec
     rw [show u.ro = d.ro from by rw [← hd]; rfl] at ed
     have HEA:=Lib.hid (fun w'' (hb:Below wr.heap.size wr w'') => (show (w''.cell? ⟨(al.add (j * 15)).block,(al.add (j * 15)).off + 1,none⟩ = some (.int .i64 d.op) ∧ w''.cell? ⟨(al.add (j * 15)).block,(al.add (j * 15)).off + 2,none⟩ = some (.int .i64 d.kd) ∧ w''.cell? ⟨(al.add (j * 15)).block,(al.add (j * 15)).off + 3,none⟩ = some (.int .i64 d.id) ∧ w''.cell? ⟨(al.add (j * 15)).block,(al.add (j * 15)).off + 4,none⟩ = some (.int .i64 d.fr) ∧ w''.cell? ⟨(al.add (j * 15)).block,(al.add (j * 15)).off + 5,none⟩ = some (.int .i64 d.tn) ∧ w''.cell? ⟨(al.add (j * 15)).block,(al.add (j * 15)).off + 6,none⟩ = some (.int .i64 d.st) ∧ w''.cell? ⟨(al.add (j * 15)).block,(al.add (j * 15)).off + 7,none⟩ = some (.int .i64 d.en) ∧ w''.cell? ⟨(al.add (j * 15)).block,(al.add (j * 15)).off + 8,none⟩ = some (.int .i64 d.rt) ∧ w''.cell? ⟨(al.add (j * 15)).block,(al.add (j * 15)).off + 9,none⟩ = some (.int .i64 d.rf) ∧ w''.cell? ⟨(al.add (j * 15)).block,(al.add (j * 15)).off + 10,none⟩ = some (.int .i64 d.rn) ∧ w''.cell? ⟨(al.add (j * 15)).block,(al.add (j * 15)).off + 11,none⟩ = some (.int .i64 d.rs) ∧ w''.cell? ⟨(al.add (j * 15)).block,(al.add (j * 15)).off + 12,none⟩ = some (.int .i64 d.re) ∧ w''.cell? ⟨(al.add (j * 15)).block,(al.add (j * 15)).off + 13,none⟩ = some (.int .i64 d.ro)) from ⟨(hb.cell (block_lt_of_cell e1)).trans e1,(hb.cell (block_lt_of_cell e2)).trans e2,(hb.cell (block_lt_of_cell e3)).trans e3,(hb.cell (block_lt_of_cell e4)).trans e4,(hb.cell (block_lt_of_cell e5)).trans e5,(hb.cell (block_lt_of_cell e6)).trans e6,(hb.cell (block_lt_of_cell e7)).trans e7,(hb.cell (block_lt_of_cell e8)).trans e8,(hb.cell (block_lt_of_cell e9)).trans e9,(hb.cell (block_lt_of_cell ea)).trans ea,(hb.cell (block_lt_of_cell eb)).trans eb,(hb.cell (block_lt_of_cell ec)).trans ec,(hb.cell (block_lt_of_cell ed)).trans ed⟩))
     have HEN:=Lib.hid (fun w'' (hb:Below wr.heap.size wr w'') => (hb.cell (block_lt_of_cell ee)).trans ee)
     have HE0:=Lib.hid (fun w'' (hb:Below wr.heap.size wr w'') => (hb.cell (block_lt_of_cell e0)).trans e0)
     have HRX:=Lib.hid (fun w'' (hb:Below wr.heap.size wr w'') => hX'.below hb hX'.lt)
     have HRL:=Lib.hid (fun w'' (hb:Below wr.heap.size wr w'') => hx.up hb)
     have HRB:=Lib.hid (fun w'' (hb:Below wr.heap.size wr w'') => hB0.trans (hb.mono hs))
     have HBP:=Lib.hid hX'.lt
     have HSZ:=Lib.hid hs
     clear e0 e1 e2 e3 e4 e5 e6 e7 e8 e9 ea eb ec ed ee hu hd hwd hlr hab
     have x0:wr.cell? ⟨wX.heap.size,0,none⟩ = some (.slice A5 n5 c5):=hX'.cell 0
     have x1:wr.cell? ⟨wX.heap.size,1,none⟩ = some (.slice A6 n6 c6):=hX'.cell 1
     have x2:wr.cell? ⟨wX.heap.size,2,none⟩ = some (.int .i64 px.clk):=hX'.cell 2
     have x3:wr.cell? ⟨wX.heap.size,3,none⟩ = some (.int .i64 px.ver):=hX'.cell 3
     have lt_x:=hX'.lt
     clear hX' hs hB0
     go_wp2_with fail
     refine (rpcopy_any A5 n5 c5 A6 n6 c6 px wr hx).mono ?_
     rintro e wa ⟨Aw,cw,Av,cv,rfl,hoW,hbR⟩
     clear x0 x1 x2 x3 lt_x hx
     go_upto_region 26 with fail
     have hW:=((Blok.new wa 25 #[.slice Aw n5 cw,.slice Av n6 cv,.int .i64 px.clk,.int .i64 px.ver]).alloc (.cells #[.slice none 0 0,.slice none 0 0,.int .i64 0,.int .i64 0] 25)).alloc (.cells #[.slice none 0 0,.slice none 0 0,.int .i64 0,.int .i64 0] 25)
     have hY:=(Blok.new (wa.alloc (.cells #[.slice Aw n5 cw,.slice Av n6 cv,.int .i64 px.clk,.int .i64 px.ver] 25)) 25 #[.slice none 0 0,.slice none 0 0,.int .i64 0,.int .i64 0]).alloc (.cells #[.slice none 0 0,.slice none 0 0,.int .i64 0,.int .i64 0] 25)
     have hZ:=Blok.new ((wa.alloc (.cells #[.slice Aw n5 cw,.slice Av n6 cv,.int .i64 px.clk,.int .i64 px.ver] 25)).alloc (.cells #[.slice none 0 0,.slice none 0 0,.int .i64 0,.int .i64 0] 25)) 25 #[.slice none 0 0,.slice none 0 0,.int .i64 0,.int .i64 0]
     simp only [World.size_alloc] at hY hZ
     have hb2:Below wa.heap.size wa (((wa.alloc (.cells #[.slice Aw n5 cw,.slice Av n6 cv,.int .i64 px.clk,.int .i64 px.ver] 25)).alloc (.cells #[.slice none 0 0,.slice none 0 0,.int .i64 0,.int .i64 0] 25)).alloc (.cells #[.slice none 0 0,.slice none 0 0,.int .i64 0,.int .i64 0] 25)):=by (repeat (first | exact Below.refl _ _ | refine Below.alloc ?_ (by first | omega | (simp; done) | (simp; omega)) _ | refine Below.setCell ?_ (by first | omega | (simp; done) | (simp; omega)) _ | refine Below.drew ?_))
     have hsw:wr.heap.size ≤ wa.heap.size:=hbR.size
     have hw1:∀ g,(Value.slice Aw n5 cw).ownBlock = some g → g < wa.heap.size:=fun g hg => (hoW.o1.lt g hg).2
     have hw2:∀ g,(Value.slice Av n6 cv).ownBlock = some g → g < wa.heap.size:=fun g hg => (hoW.o.lt g hg).2
     replace hoW:=hoW.below hb2
     have hR:=hbR.trans (hb2.mono hsw)
     clear hb2 hbR
     generalize ((wa.alloc (.cells #[.slice Aw n5 cw,.slice Av n6 cv,.int .i64 px.clk,.int .i64 px.ver] 25)).alloc (.cells #[.slice none 0 0,.slice none 0 0,.int .i64 0,.int .i64 0] 25)).alloc (.cells #[.slice none 0 0,.slice none 0 0,.int .i64 0,.int .i64 0] 25) = ws at *
     generalize wa.heap.size = bW at *
     have e0:=HE0.out _ hR
     go_upto_if 140 with fail
     go_cut [23,24,25] (fun s23 s24 s25 wx => ∃ (y:Pl) (f:Int) (A7:Option Addr) (n7 c7:Nat) (A8:Option Addr) (n8 c8:Nat) (B7:Option Addr) (k7 q7:Nat) (B8:Option Addr) (k8 q8:Nat),s23 = .int .i64 f ∧ s24 = .int .i64 f ∧ s25 = .bool true ∧ Hid (y.right = true) ∧ Below wr.heap.size wr wx ∧ Blok wx bW 25 #[.slice Aw n5 cw,.slice Av n6 cv,.int .i64 px.clk,.int .i64 px.ver] ∧ Blok wx (bW + 1) 25 #[.slice A7 n7 c7,.slice A8 n8 c8,.int .i64 y.clk,.int .i64 y.ver] ∧ Blok wx (bW + 1 + 1) 25 #[.slice B7 k7 q7,.slice B8 k8 q8,.int .i64 y.clk,.int .i64 y.ver] ∧ PlAt wx Aw n5 cw Av n6 cv px ∧ PlOwn wx wr.heap.size A7 n7 c7 A8 n8 c8 y ∧ PlAt wx B7 k7 q7 B8 k8 q8 y)
     case first =>
      have HRS:=Lib.hid (Nat.le_trans hsw (show bW ≤ ws.heap.size by have:=hW.lt; omega))
      by_cases hdo:u.dq = 0
      ·have g1:(u.dq == 0) = true:=by simpa using hdo
       clear hdo
       obtain ⟨y,hy⟩:∃ y,stepP px d = y:=⟨_,rfl⟩
       obtain ⟨f,hf⟩:∃ f,stepQ px d = f:=⟨_,rfl⟩
       have HY:=Lib.hid hy
       have HF:=Lib.hid hf
       have HYR:=Lib.hid (show y.right = true by rw [← hy]; exact stepP_right HXR.out)
       clear hy hf
       go_upto_region 30 with fail
       clear g1 e0
       refine gen_frame ?_
       intro a0 ha0
       try simp only [List.append]
       refine wp_region_frames rfl (by kernel_rfl) (by kernel_rfl) (fun V x w' => Below wr.heap.size wr w' ∧ ws.grownBy w' (some (bW + 1)) ∧ (∃ cs:Array Value,cs.size = 4 ∧ Blok w' (bW + 1) 25 cs) ∧ TF [(0,.agg #[.slice A5 n5 c5,.slice A6 n6 c6,.int .i64 px.clk,.int .i64 px.ver]),(1,.slice (some al) i cl),(2,.int .i64 j),(3,.pointer (some (al.add (j * 15)))),(4,.pointer (some ⟨(al.add (j * 15)).block,(al.add (j * 15)).off + 1,none⟩)),(5,.agg #[.int .i64 d.op,.int .i64 d.kd,.int .i64 d.id,.int .i64 d.fr,.int .i64 d.tn,.int .i64 d.st,.int .i64 d.en,.int .i64 d.rt,.int .i64 d.rf,.int .i64 d.rn,.int .i64 d.rs,.int .i64 d.re,.int .i64 d.ro]),(9,.int .i64 f),(11,.int .i64 f)] V x ∧ (V.getD 6 true = true → GotA w' ws.heap.size (bW + 1) y f (x 6)) ∧ (V.getD 7 true = true → x 7 = x 6) ∧ (V.getD 8 true = true → TupA f (x 6) (x 8)) ∧ (V.getD 10 true = true → StoA w' (bW + 1) (x 8))) ?_ ?_ ?_
       ·intro x'
        refine ⟨hR.drew,grown_drew (grown_refl _ _),⟨_,rfl,hY.below (Below.refl _ _).drew hY.lt⟩,TF.none rfl,?_,?_,?_,?_⟩ <;> exact fun h => by simp at h
       ·intro V x b w' hbq hsz hF i' hi' hun haf hcl
        obtain ⟨hBw,hG,⟨cY,hzY,hkY⟩,hT,f6,f7,f8,f10⟩:=hF
        have hbe:b = putAll a0 [some 142,some 143,some 144,some 145,some 146,some 147,some 148,some 141,some 149,some 150,none,some 23] x 0:=hbq
        have hz:a0.tmps.size = 236:=by rw [ha0]; rfl
        have t18:b.tmps[18]?.getD undef = .pointer (some ⟨wX.heap.size,0,none⟩):=by have e:b.eval (.tmp 18) = .pointer (some ⟨wX.heap.size,0,none⟩):=(by rw [hbe,eval_out _ _ _ (by decide),ha0]; rfl); simpa [Act.eval] using e
        have t1:b.tmps[1]?.getD undef = .slice (some al) i cl:=by have e:b.eval (.tmp 1) = .slice (some al) i cl:=(by rw [hbe,eval_out _ _ _ (by decide),ha0]; rfl); simpa [Act.eval] using e
        have t19:b.tmps[19]?.getD undef = .int .i64 j:=by have e:b.eval (.tmp 19) = .int .i64 j:=(by rw [hbe,eval_out _ _ _ (by decide),ha0]; rfl); simpa [Act.eval] using e
        clear hbq
        have hi2':i' < 12:=hi'
        clear hi'
        obtain rfl | rfl | rfl | rfl | rfl | rfl | rfl | rfl | rfl | rfl | rfl | rfl:i' = 0 ∨ i' = 1 ∨ i' = 2 ∨ i' = 3 ∨ i' = 4 ∨ i' = 5 ∨ i' = 6 ∨ i' = 7 ∨ i' = 8 ∨ i' = 9 ∨ i' = 10 ∨ i' = 11:=by omega
        ·have hX:=HRX.out _ hBw
         have n_0:w'.cell? ⟨wX.heap.size,0,none⟩ = some (.slice A5 n5 c5):=hX.cell 0
         have n_1:w'.cell? ⟨wX.heap.size,1,none⟩ = some (.slice A6 n6 c6):=hX.cell 1
         have n_2:w'.cell? ⟨wX.heap.size,2,none⟩ = some (.int .i64 px.clk):=hX.cell 2
         have n_3:w'.cell? ⟨wX.heap.size,3,none⟩ = some (.int .i64 px.ver):=hX.cell 3
         have lt_n:=hX.lt
         refine wpOp_runs (v:=.agg #[.slice A5 n5 c5,.slice A6 n6 c6,.int .i64 px.clk,.int .i64 px.ver]) rfl rfl (by simp [execOp,go_sem,t18,n_0,n_1,n_2,n_3,lt_n]) ⟨_,_,rfl,rfl,⟨hBw,hG,⟨cY,hzY,hkY⟩,hT.on 0 rfl rfl,ku1 f6 rfl rfl,ku2 (P:=Eq) f7 rfl rfl rfl,ku2 f8 rfl rfl rfl,ku1 f10 rfl rfl⟩⟩
        ·refine wpOp_runs (v:=.slice (some al) i cl) rfl rfl (by simp [execOp,go_sem,t1]) ⟨_,_,rfl,rfl,⟨hBw,hG,⟨cY,hzY,hkY⟩,hT.on 1 rfl rfl,ku1 f6 rfl rfl,ku2 (P:=Eq) f7 rfl rfl rfl,ku2 f8 rfl rfl rfl,ku1 f10 rfl rfl⟩⟩
        ·refine wpOp_runs (v:=.int .i64 j) rfl rfl (by simp [execOp,go_sem,t19]) ⟨_,_,rfl,rfl,⟨hBw,hG,⟨cY,hzY,hkY⟩,hT.on 2 rfl rfl,ku1 f6 rfl rfl,ku2 (P:=Eq) f7 rfl rfl rfl,ku2 f8 rfl rfl rfl,ku1 f10 rfl rfl⟩⟩
        ·have d1:=getD_ft (haf _ rfl ⟨1,.data⟩ (by simp) rfl)
         have d2:=getD_ft (haf _ rfl ⟨2,.data⟩ (by simp) rfl)
         have e143:b.eval (.tmp 143) = .slice (some al) i cl:=by rw [hbe,eval_in _ _ _ 1 (by decide) rfl (by rw [hz]; decide)]; exact (hT.get 1 rfl d1)
         have e144:b.eval (.tmp 144) = .int .i64 j:=by rw [hbe,eval_in _ _ _ 2 (by decide) rfl (by rw [hz]; decide)]; exact (hT.get 2 rfl d2)
         have t143:=e143; simp only [Act.eval,Array.getD_eq_getD_getElem?] at t143
         have t144:=e144; simp only [Act.eval,Array.getD_eq_getD_getElem?] at t144
         refine wpOp_runs (v:=.pointer (some (al.add (j * 15)))) rfl rfl (by simp [execOp,go_sem,t143,t144,hin2,hi0]) ⟨_,_,rfl,rfl,⟨hBw,hG,⟨cY,hzY,hkY⟩,hT.on 3 rfl rfl,ku1 f6 rfl rfl,ku2 (P:=Eq) f7 rfl rfl rfl,ku2 f8 rfl rfl rfl,ku1 f10 rfl rfl⟩⟩
        ·have d3:=getD_ft (haf _ rfl ⟨3,.data⟩ (by simp) rfl)
         have e145:b.eval (.tmp 145) = .pointer (some (al.add (j * 15))):=by rw [hbe,eval_in _ _ _ 3 (by decide) rfl (by rw [hz]; decide)]; exact (hT.get 3 rfl d3)
         have t145:=e145; simp only [Act.eval,Array.getD_eq_getD_getElem?] at t145
         refine wpOp_runs (v:=.pointer (some ⟨(al.add (j * 15)).block,(al.add (j * 15)).off + 1,none⟩)) rfl rfl (by simp [execOp,go_sem,t145]) ⟨_,_,rfl,rfl,⟨hBw,hG,⟨cY,hzY,hkY⟩,hT.on 4 rfl rfl,ku1 f6 rfl rfl,ku2 (P:=Eq) f7 rfl rfl rfl,ku2 f8 rfl rfl rfl,ku1 f10 rfl rfl⟩⟩
        ·have d4:=getD_ft (haf _ rfl ⟨4,.data⟩ (by simp) rfl)
         have e146:b.eval (.tmp 146) = .pointer (some ⟨(al.add (j * 15)).block,(al.add (j * 15)).off + 1,none⟩):=by rw [hbe,eval_in _ _ _ 4 (by decide) rfl (by rw [hz]; decide)]; exact (hT.get 4 rfl d4)
         have t146:=e146; simp only [Act.eval,Array.getD_eq_getD_getElem?] at t146
         obtain ⟨y0,y1,y2,y3,y4,y5,y6,y7,y8,y9,y10,y11,y12⟩:=HEA.out _ hBw
         refine wpOp_runs (v:=.agg #[.int .i64 d.op,.int .i64 d.kd,.int .i64 d.id,.int .i64 d.fr,.int .i64 d.tn,.int .i64 d.st,.int .i64 d.en,.int .i64 d.rt,.int .i64 d.rf,.int .i64 d.rn,.int .i64 d.rs,.int .i64 d.re,.int .i64 d.ro]) rfl rfl (by simp [execOp,go_sem,t146,y0,y1,y2,y3,y4,y5,y6,y7,y8,y9,y10,y11,y12]) ⟨_,_,rfl,rfl,⟨hBw,hG,⟨cY,hzY,hkY⟩,hT.on 5 rfl rfl,ku1 f6 rfl rfl,ku2 (P:=Eq) f7 rfl rfl rfl,ku2 f8 rfl rfl rfl,ku1 f10 rfl rfl⟩⟩
        ·have d0:=getD_ft (haf _ rfl ⟨0,.data⟩ (by simp) rfl)
         have d5:=getD_ft (haf _ rfl ⟨5,.data⟩ (by simp) rfl)
         have e142:b.eval (.tmp 142) = .agg #[.slice A5 n5 c5,.slice A6 n6 c6,.int .i64 px.clk,.int .i64 px.ver]:=by rw [hbe,eval_in _ _ _ 0 (by decide) rfl (by rw [hz]; decide)]; exact (hT.get 0 rfl d0)
         have e147:b.eval (.tmp 147) = .agg #[.int .i64 d.op,.int .i64 d.kd,.int .i64 d.id,.int .i64 d.fr,.int .i64 d.tn,.int .i64 d.st,.int .i64 d.en,.int .i64 d.rt,.int .i64 d.rf,.int .i64 d.rn,.int .i64 d.rs,.int .i64 d.re,.int .i64 d.ro]:=by rw [hbe,eval_in _ _ _ 5 (by decide) rfl (by rw [hz]; decide)]; exact (hT.get 5 rfl d5)
         refine wpOp_of rfl ?_
         refine step_call rfl 23 #[.tmp 142,.tmp 147] _ rfl #[.agg #[.slice A5 n5 c5,.slice A6 n6 c6,.int .i64 px.clk,.int .i64 px.ver],.agg #[.int .i64 d.op,.int .i64 d.kd,.int .i64 d.id,.int .i64 d.fr,.int .i64 d.tn,.int .i64 d.st,.int .i64 d.en,.int .i64 d.rt,.int .i64 d.rf,.int .i64 d.rn,.int .i64 d.rs,.int .i64 d.re,.int .i64 d.ro]] (by simp [e142,e147]) Tryz.func23 rfl rfl ?_
         refine (papply_any A5 n5 c5 A6 n6 c6 px d w' HW.out.1 HW.out.2 (HRL.out _ hBw) HXR.out).mono ?_
         rintro e w'' ⟨A7,n7,c7,A8,n8,c8,rfl,hown,hb⟩
         rw [HY.out] at hown
         rw [HY.out,HF.out]
         have hgs:=hG.size
         exact ⟨_,rfl,_,_,rfl,rfl,⟨hBw.trans (hb.mono hBw.size),grown_trans hG (grown_of_below hb),⟨cY,hzY,hkY.below hb hkY.lt⟩,hT.off rfl,fun _ => by rw [upd_same]; exact GotA.of hkY.lt hgs hown,fun h => absurd (getD_ft (hcl 7 _ rfl (un_set (i:=6) rfl h) ⟨6,.data⟩ (by simp) rfl)) (by rw [hun]; decide),fun h => absurd (getD_ft (hcl 7 _ rfl (getD_ft (hcl 8 _ rfl (un_set (i:=6) rfl h) ⟨7,.data⟩ (by simp) rfl)) ⟨6,.data⟩ (by simp) rfl)) (by rw [hun]; decide),fun h => absurd (getD_ft (hcl 7 _ rfl (getD_ft (hcl 8 _ rfl (getD_ft (hcl 10 _ rfl (un_set (i:=6) rfl h) ⟨8,.data⟩ (by simp) rfl)) ⟨7,.data⟩ (by simp) rfl)) ⟨6,.data⟩ (by simp) rfl)) (by rw [hun]; decide)⟩⟩
        ·have d6:=getD_ft (haf _ rfl ⟨6,.data⟩ (by simp) rfl)
         have e148:b.eval (.tmp 148) = x 6:=by rw [hbe,eval_in _ _ _ 6 (by decide) rfl (by rw [hz]; decide)]
         obtain ⟨v5,e5,hv5,hn5⟩:=f6 d6
         rw [e5] at e148
         have t148:=e148; simp only [Act.eval,Array.getD_eq_getD_getElem?] at t148
         refine wpOp_runs (v:=.tuple #[v5,.int .i64 f]) rfl rfl (by simp [execOp,go_sem,t148]) ⟨_,_,rfl,rfl,⟨hBw,hG,⟨cY,hzY,hkY⟩,hT.off rfl,ku1 f6 rfl rfl,fun _ => by rw [upd_same,upd_off x _ rfl,e5],fun h => absurd (getD_ft (hcl 8 _ rfl (un_set (i:=7) rfl h) ⟨7,.data⟩ (by simp) rfl)) (by rw [hun]; decide),fun h => absurd (getD_ft (hcl 8 _ rfl (getD_ft (hcl 10 _ rfl (un_set (i:=7) rfl h) ⟨8,.data⟩ (by simp) rfl)) ⟨7,.data⟩ (by simp) rfl)) (by rw [hun]; decide)⟩⟩
        ·have d7:=getD_ft (haf _ rfl ⟨7,.data⟩ (by simp) rfl)
         have d6:=(getD_ft (hcl 7 _ rfl d7 ⟨6,.data⟩ (by simp) rfl))
         have e141:b.eval (.tmp 141) = x 7:=by rw [hbe,eval_in _ _ _ 7 (by decide) rfl (by rw [hz]; decide)]
         obtain ⟨v5,e5,hv5,hn5⟩:=f6 d6
         rw [f7 d7,e5] at e141
         have t141:=e141; simp only [Act.eval,Array.getD_eq_getD_getElem?] at t141
         refine wpOp_runs (v:=v5) rfl rfl (by simp [execOp,go_sem,t141]) ⟨_,_,rfl,rfl,⟨hBw,hG,⟨cY,hzY,hkY⟩,hT.off rfl,ku1 f6 rfl rfl,ku2 (P:=Eq) f7 rfl rfl rfl,fun _ => by rw [upd_same,upd_off x _ rfl,e5]; rfl,fun h => absurd (getD_ft (hcl 10 _ rfl (un_set (i:=8) rfl h) ⟨8,.data⟩ (by simp) rfl)) (by rw [hun]; decide)⟩⟩
        ·have d7:=getD_ft (haf _ rfl ⟨7,.data⟩ (by simp) rfl)
         have d6:=(getD_ft (hcl 7 _ rfl d7 ⟨6,.data⟩ (by simp) rfl))
         have e141:b.eval (.tmp 141) = x 7:=by rw [hbe,eval_in _ _ _ 7 (by decide) rfl (by rw [hz]; decide)]
         obtain ⟨v5,e5,hv5,hn5⟩:=f6 d6
         rw [f7 d7,e5] at e141
         have t141:=e141; simp only [Act.eval,Array.getD_eq_getD_getElem?] at t141
         refine wpOp_runs (v:=.int .i64 f) rfl rfl (by simp [execOp,go_sem,t141]) ⟨_,_,rfl,rfl,⟨hBw,hG,⟨cY,hzY,hkY⟩,hT.on 6 rfl rfl,ku1 f6 rfl rfl,ku2 (P:=Eq) f7 rfl rfl rfl,ku2 f8 rfl rfl rfl,ku1 f10 rfl rfl⟩⟩
        ·have d8:=getD_ft (haf _ rfl ⟨8,.data⟩ (by simp) rfl)
         have d7:=(getD_ft (hcl 8 _ rfl d8 ⟨7,.data⟩ (by simp) rfl))
         have d6:=(getD_ft (hcl 7 _ rfl d7 ⟨6,.data⟩ (by simp) rfl))
         obtain ⟨v5,e5,hv5,hn5⟩:=f6 d6
         have hv7:=PlV.seven e5 (f8 d8) hv5
         obtain ⟨cs7,hz7,ho7,hx7⟩:=hv7.agg
         have e21:b.eval (.tmp 21) = .pointer (some ⟨(bW + 1),0,none⟩):=by rw [hbe,eval_out _ _ _ (by decide),ha0]; rfl
         have e149:b.eval (.tmp 149) = .agg cs7:=by rw [hbe,eval_in _ _ _ 8 (by decide) rfl (by rw [hz]; decide)]; exact hx7
         refine wpOp_of rfl ?_
         rw [if_pos (by simp [Region.wanted])]
         refine wp_store_mid 25 (.tmp 21) (.tmp 149) rfl (bW + 1) 0 cs7 e21 e149 ?_ (by rw [hz7]; kernel_rfl) ho7 ?_
         ·intro j hj
          rw [Nat.zero_add]
          refine ⟨?_,hkY.free j⟩
          rw [hkY.cell j]
          have:j < cY.size:=by omega
          simp [this]
         ·refine ⟨_,_,rfl,rfl,⟨set_below _ (show wr.heap.size ≤ bW + 1 by omega) _ _ hBw,grown_trans hG (grown_sets _ _ _),⟨cs7,hz7,set_whole hkY (by rw [hz7,hzY])⟩,hT.off rfl,fun h => (ku1 (i:=10) f6 rfl rfl h).far (grown_sets _ _ _),ku2 (P:=Eq) f7 rfl rfl rfl,ku2 f8 rfl rfl rfl,fun _ => by rw [upd_off x _ rfl]; exact ⟨cs7,hz7,hx7,set_whole hkY (by rw [hz7,hzY])⟩⟩⟩
        ·have d9:=getD_ft (haf _ rfl ⟨9,.data⟩ (by simp) rfl)
         have e150:b.eval (.tmp 150) = .int .i64 f:=by rw [hbe,eval_in _ _ _ 9 (by decide) rfl (by rw [hz]; decide)]; exact (hT.get 6 rfl d9)
         have t150:=e150; simp only [Act.eval,Array.getD_eq_getD_getElem?] at t150
         refine wpOp_runs (v:=.int .i64 f) rfl rfl (by simp [execOp,go_sem,t150]) ⟨_,_,rfl,rfl,⟨hBw,hG,⟨cY,hzY,hkY⟩,hT.on 7 rfl rfl,ku1 f6 rfl rfl,ku2 (P:=Eq) f7 rfl rfl rfl,ku2 f8 rfl rfl rfl,ku1 f10 rfl rfl⟩⟩
       intro V x wp hall hF
       obtain ⟨hBw,hG,⟨cY,hzY,hkY⟩,hT,f6,f7,f8,f10⟩:=hF
       obtain ⟨cs,hz4,hx8,hYN⟩:=f10 (hall 10 (by decide))
       obtain ⟨v5,e5,hv5,hn5⟩:=f6 (hall 6 (by decide))
       have hv7:=PlV.seven e5 (f8 (hall 8 (by decide))) hv5
       have hx11:=hT.get 7 rfl (hall 11 (by decide))
       obtain ⟨A7,n7,c7,A8,n8,c8,e7,hoY⟩:=hv7
       rw [e7] at hx8
       injection hx8 with hx8
       subst hx8
       clear hT f6 f7 f8 f10 hall e5 hv5 e7 hz4 hn5 cY hzY hkY
       subst ha0
       simp only [List.map_cons,List.map_nil,putAll,hx11]
       clear hx11
       go_simp
       have hltZ:=hZ.lt
       have hgz:=hG.size
       replace hW:=hW.grown hG (by simp only [ne_eq,Option.some.injEq]; omega)
       replace hZ:=hZ.grown hG (by simp only [ne_eq,Option.some.injEq]; omega)
       replace hoW:=hoW.other hG (fun g hg => by have:=hw1 g hg; omega) (fun g hg => by have:=hw2 g hg; omega)
       clear hY hG hR
       have hY:=hYN
       have hR:=hBw
       clear hYN hBw
       have hbase:bW + 1 + 1 < ws.heap.size:=hltZ
       go_upto_region 31 with fail
       refine gen_frame ?_
       intro a0 ha0
       try simp only [List.append]
       refine wp_region_frames rfl (by kernel_rfl) (by kernel_rfl) (fun V x w' => Below wr.heap.size wr w' ∧ wp.grownBy w' (some (bW + 1 + 1)) ∧ (∃ cs:Array Value,cs.size = 4 ∧ Blok w' (bW + 1 + 1) 25 cs) ∧ TF [(0,.agg #[.slice A5 n5 c5,.slice A6 n6 c6,.int .i64 px.clk,.int .i64 px.ver]),(1,.slice (some al) i cl),(2,.int .i64 j),(3,.pointer (some (al.add (j * 15)))),(4,.pointer (some ⟨(al.add (j * 15)).block,(al.add (j * 15)).off + 1,none⟩)),(5,.agg #[.int .i64 d.op,.int .i64 d.kd,.int .i64 d.id,.int .i64 d.fr,.int .i64 d.tn,.int .i64 d.st,.int .i64 d.en,.int .i64 d.rt,.int .i64 d.rf,.int .i64 d.rn,.int .i64 d.rs,.int .i64 d.re,.int .i64 d.ro]),(9,.int .i64 f),(11,.int .i64 f)] V x ∧ (V.getD 6 true = true → GotA w' wp.heap.size (bW + 1 + 1) y f (x 6)) ∧ (V.getD 7 true = true → x 7 = x 6) ∧ (V.getD 8 true = true → TupA f (x 6) (x 8)) ∧ (V.getD 10 true = true → StoA w' (bW + 1 + 1) (x 8))) ?_ ?_ ?_
       ·intro x'
        refine ⟨hR.drew,grown_drew (grown_refl _ _),⟨_,rfl,hZ.below (Below.refl _ _).drew hZ.lt⟩,TF.none rfl,?_,?_,?_,?_⟩ <;> exact fun h => by simp at h
       ·intro V x b w' hbq hsz hF i' hi' hun haf hcl
        obtain ⟨hBw,hG,⟨cY,hzY,hkY⟩,hT,f6,f7,f8,f10⟩:=hF
        have hbe:b = putAll a0 [some 152,some 153,some 154,some 155,some 156,some 157,some 158,some 151,some 159,some 160,none,some 24] x 0:=hbq
        have hz:a0.tmps.size = 236:=by rw [ha0]; rfl
        have t18:b.tmps[18]?.getD undef = .pointer (some ⟨wX.heap.size,0,none⟩):=by have e:b.eval (.tmp 18) = .pointer (some ⟨wX.heap.size,0,none⟩):=(by rw [hbe,eval_out _ _ _ (by decide),ha0]; rfl); simpa [Act.eval] using e
        have t1:b.tmps[1]?.getD undef = .slice (some al) i cl:=by have e:b.eval (.tmp 1) = .slice (some al) i cl:=(by rw [hbe,eval_out _ _ _ (by decide),ha0]; rfl); simpa [Act.eval] using e
        have t19:b.tmps[19]?.getD undef = .int .i64 j:=by have e:b.eval (.tmp 19) = .int .i64 j:=(by rw [hbe,eval_out _ _ _ (by decide),ha0]; rfl); simpa [Act.eval] using e
        clear hbq
        have hi2':i' < 12:=hi'
        clear hi'
        obtain rfl | rfl | rfl | rfl | rfl | rfl | rfl | rfl | rfl | rfl | rfl | rfl:i' = 0 ∨ i' = 1 ∨ i' = 2 ∨ i' = 3 ∨ i' = 4 ∨ i' = 5 ∨ i' = 6 ∨ i' = 7 ∨ i' = 8 ∨ i' = 9 ∨ i' = 10 ∨ i' = 11:=by omega
        ·have hX:=HRX.out _ hBw
         have n_0:w'.cell? ⟨wX.heap.size,0,none⟩ = some (.slice A5 n5 c5):=hX.cell 0
         have n_1:w'.cell? ⟨wX.heap.size,1,none⟩ = some (.slice A6 n6 c6):=hX.cell 1
         have n_2:w'.cell? ⟨wX.heap.size,2,none⟩ = some (.int .i64 px.clk):=hX.cell 2
         have n_3:w'.cell? ⟨wX.heap.size,3,none⟩ = some (.int .i64 px.ver):=hX.cell 3
         have lt_n:=hX.lt
         refine wpOp_runs (v:=.agg #[.slice A5 n5 c5,.slice A6 n6 c6,.int .i64 px.clk,.int .i64 px.ver]) rfl rfl (by simp [execOp,go_sem,t18,n_0,n_1,n_2,n_3,lt_n]) ⟨_,_,rfl,rfl,⟨hBw,hG,⟨cY,hzY,hkY⟩,hT.on 0 rfl rfl,ku1 f6 rfl rfl,ku2 (P:=Eq) f7 rfl rfl rfl,ku2 f8 rfl rfl rfl,ku1 f10 rfl rfl⟩⟩
        ·refine wpOp_runs (v:=.slice (some al) i cl) rfl rfl (by simp [execOp,go_sem,t1]) ⟨_,_,rfl,rfl,⟨hBw,hG,⟨cY,hzY,hkY⟩,hT.on 1 rfl rfl,ku1 f6 rfl rfl,ku2 (P:=Eq) f7 rfl rfl rfl,ku2 f8 rfl rfl rfl,ku1 f10 rfl rfl⟩⟩
        ·refine wpOp_runs (v:=.int .i64 j) rfl rfl (by simp [execOp,go_sem,t19]) ⟨_,_,rfl,rfl,⟨hBw,hG,⟨cY,hzY,hkY⟩,hT.on 2 rfl rfl,ku1 f6 rfl rfl,ku2 (P:=Eq) f7 rfl rfl rfl,ku2 f8 rfl rfl rfl,ku1 f10 rfl rfl⟩⟩
        ·have d1:=getD_ft (haf _ rfl ⟨1,.data⟩ (by simp) rfl)
         have d2:=getD_ft (haf _ rfl ⟨2,.data⟩ (by simp) rfl)
         have e153:b.eval (.tmp 153) = .slice (some al) i cl:=by rw [hbe,eval_in _ _ _ 1 (by decide) rfl (by rw [hz]; decide)]; exact (hT.get 1 rfl d1)
         have e154:b.eval (.tmp 154) = .int .i64 j:=by rw [hbe,eval_in _ _ _ 2 (by decide) rfl (by rw [hz]; decide)]; exact (hT.get 2 rfl d2)
         have t153:=e153; simp only [Act.eval,Array.getD_eq_getD_getElem?] at t153
         have t154:=e154; simp only [Act.eval,Array.getD_eq_getD_getElem?] at t154
         refine wpOp_runs (v:=.pointer (some (al.add (j * 15)))) rfl rfl (by simp [execOp,go_sem,t153,t154,hin2,hi0]) ⟨_,_,rfl,rfl,⟨hBw,hG,⟨cY,hzY,hkY⟩,hT.on 3 rfl rfl,ku1 f6 rfl rfl,ku2 (P:=Eq) f7 rfl rfl rfl,ku2 f8 rfl rfl rfl,ku1 f10 rfl rfl⟩⟩
        ·have d3:=getD_ft (haf _ rfl ⟨3,.data⟩ (by simp) rfl)
         have e155:b.eval (.tmp 155) = .pointer (some (al.add (j * 15))):=by rw [hbe,eval_in _ _ _ 3 (by decide) rfl (by rw [hz]; decide)]; exact (hT.get 3 rfl d3)
         have t155:=e155; simp only [Act.eval,Array.getD_eq_getD_getElem?] at t155
         refine wpOp_runs (v:=.pointer (some ⟨(al.add (j * 15)).block,(al.add (j * 15)).off + 1,none⟩)) rfl rfl (by simp [execOp,go_sem,t155]) ⟨_,_,rfl,rfl,⟨hBw,hG,⟨cY,hzY,hkY⟩,hT.on 4 rfl rfl,ku1 f6 rfl rfl,ku2 (P:=Eq) f7 rfl rfl rfl,ku2 f8 rfl rfl rfl,ku1 f10 rfl rfl⟩⟩
        ·have d4:=getD_ft (haf _ rfl ⟨4,.data⟩ (by simp) rfl)
         have e156:b.eval (.tmp 156) = .pointer (some ⟨(al.add (j * 15)).block,(al.add (j * 15)).off + 1,none⟩):=by rw [hbe,eval_in _ _ _ 4 (by decide) rfl (by rw [hz]; decide)]; exact (hT.get 4 rfl d4)
         have t156:=e156; simp only [Act.eval,Array.getD_eq_getD_getElem?] at t156
         obtain ⟨y0,y1,y2,y3,y4,y5,y6,y7,y8,y9,y10,y11,y12⟩:=HEA.out _ hBw
         refine wpOp_runs (v:=.agg #[.int .i64 d.op,.int .i64 d.kd,.int .i64 d.id,.int .i64 d.fr,.int .i64 d.tn,.int .i64 d.st,.int .i64 d.en,.int .i64 d.rt,.int .i64 d.rf,.int .i64 d.rn,.int .i64 d.rs,.int .i64 d.re,.int .i64 d.ro]) rfl rfl (by simp [execOp,go_sem,t156,y0,y1,y2,y3,y4,y5,y6,y7,y8,y9,y10,y11,y12]) ⟨_,_,rfl,rfl,⟨hBw,hG,⟨cY,hzY,hkY⟩,hT.on 5 rfl rfl,ku1 f6 rfl rfl,ku2 (P:=Eq) f7 rfl rfl rfl,ku2 f8 rfl rfl rfl,ku1 f10 rfl rfl⟩⟩
        ·have d0:=getD_ft (haf _ rfl ⟨0,.data⟩ (by simp) rfl)
         have d5:=getD_ft (haf _ rfl ⟨5,.data⟩ (by simp) rfl)
         have e152:b.eval (.tmp 152) = .agg #[.slice A5 n5 c5,.slice A6 n6 c6,.int .i64 px.clk,.int .i64 px.ver]:=by rw [hbe,eval_in _ _ _ 0 (by decide) rfl (by rw [hz]; decide)]; exact (hT.get 0 rfl d0)
         have e157:b.eval (.tmp 157) = .agg #[.int .i64 d.op,.int .i64 d.kd,.int .i64 d.id,.int .i64 d.fr,.int .i64 d.tn,.int .i64 d.st,.int .i64 d.en,.int .i64 d.rt,.int .i64 d.rf,.int .i64 d.rn,.int .i64 d.rs,.int .i64 d.re,.int .i64 d.ro]:=by rw [hbe,eval_in _ _ _ 5 (by decide) rfl (by rw [hz]; decide)]; exact (hT.get 5 rfl d5)
         refine wpOp_of rfl ?_
         refine step_call rfl 24 #[.tmp 152,.tmp 157] _ rfl #[.agg #[.slice A5 n5 c5,.slice A6 n6 c6,.int .i64 px.clk,.int .i64 px.ver],.agg #[.int .i64 d.op,.int .i64 d.kd,.int .i64 d.id,.int .i64 d.fr,.int .i64 d.tn,.int .i64 d.st,.int .i64 d.en,.int .i64 d.rt,.int .i64 d.rf,.int .i64 d.rn,.int .i64 d.rs,.int .i64 d.re,.int .i64 d.ro]] (by simp [e152,e157]) Tryz.func24 rfl rfl ?_
         refine (rpapply_any A5 n5 c5 A6 n6 c6 px d w' (HRL.out _ hBw) HXR.out).mono ?_
         rintro e w'' ⟨B7,k7,q7,B8,k8,q8,rfl,hown,hb⟩
         rw [HY.out] at hown
         rw [HY.out,HF.out]
         have hgs:=hG.size
         exact ⟨_,rfl,_,_,rfl,rfl,⟨hBw.trans (hb.mono hBw.size),grown_trans hG (grown_of_below hb),⟨cY,hzY,hkY.below hb hkY.lt⟩,hT.off rfl,fun _ => by rw [upd_same]; exact GotA.of hkY.lt hgs hown,fun h => absurd (getD_ft (hcl 7 _ rfl (un_set (i:=6) rfl h) ⟨6,.data⟩ (by simp) rfl)) (by rw [hun]; decide),fun h => absurd (getD_ft (hcl 7 _ rfl (getD_ft (hcl 8 _ rfl (un_set (i:=6) rfl h) ⟨7,.data⟩ (by simp) rfl)) ⟨6,.data⟩ (by simp) rfl)) (by rw [hun]; decide),fun h => absurd (getD_ft (hcl 7 _ rfl (getD_ft (hcl 8 _ rfl (getD_ft (hcl 10 _ rfl (un_set (i:=6) rfl h) ⟨8,.data⟩ (by simp) rfl)) ⟨7,.data⟩ (by simp) rfl)) ⟨6,.data⟩ (by simp) rfl)) (by rw [hun]; decide)⟩⟩
        ·have d6:=getD_ft (haf _ rfl ⟨6,.data⟩ (by simp) rfl)
         have e158:b.eval (.tmp 158) = x 6:=by rw [hbe,eval_in _ _ _ 6 (by decide) rfl (by rw [hz]; decide)]
         obtain ⟨v5,e5,hv5,hn5⟩:=f6 d6
         rw [e5] at e158
         have t158:=e158; simp only [Act.eval,Array.getD_eq_getD_getElem?] at t158
         refine wpOp_runs (v:=.tuple #[v5,.int .i64 f]) rfl rfl (by simp [execOp,go_sem,t158]) ⟨_,_,rfl,rfl,⟨hBw,hG,⟨cY,hzY,hkY⟩,hT.off rfl,ku1 f6 rfl rfl,fun _ => by rw [upd_same,upd_off x _ rfl,e5],fun h => absurd (getD_ft (hcl 8 _ rfl (un_set (i:=7) rfl h) ⟨7,.data⟩ (by simp) rfl)) (by rw [hun]; decide),fun h => absurd (getD_ft (hcl 8 _ rfl (getD_ft (hcl 10 _ rfl (un_set (i:=7) rfl h) ⟨8,.data⟩ (by simp) rfl)) ⟨7,.data⟩ (by simp) rfl)) (by rw [hun]; decide)⟩⟩
        ·have d7:=getD_ft (haf _ rfl ⟨7,.data⟩ (by simp) rfl)
         have d6:=(getD_ft (hcl 7 _ rfl d7 ⟨6,.data⟩ (by simp) rfl))
         have e151:b.eval (.tmp 151) = x 7:=by rw [hbe,eval_in _ _ _ 7 (by decide) rfl (by rw [hz]; decide)]
         obtain ⟨v5,e5,hv5,hn5⟩:=f6 d6
         rw [f7 d7,e5] at e151
         have t151:=e151; simp only [Act.eval,Array.getD_eq_getD_getElem?] at t151
         refine wpOp_runs (v:=v5) rfl rfl (by simp [execOp,go_sem,t151]) ⟨_,_,rfl,rfl,⟨hBw,hG,⟨cY,hzY,hkY⟩,hT.off rfl,ku1 f6 rfl rfl,ku2 (P:=Eq) f7 rfl rfl rfl,fun _ => by rw [upd_same,upd_off x _ rfl,e5]; rfl,fun h => absurd (getD_ft (hcl 10 _ rfl (un_set (i:=8) rfl h) ⟨8,.data⟩ (by simp) rfl)) (by rw [hun]; decide)⟩⟩
        ·have d7:=getD_ft (haf _ rfl ⟨7,.data⟩ (by simp) rfl)
         have d6:=(getD_ft (hcl 7 _ rfl d7 ⟨6,.data⟩ (by simp) rfl))
         have e151:b.eval (.tmp 151) = x 7:=by rw [hbe,eval_in _ _ _ 7 (by decide) rfl (by rw [hz]; decide)]
         obtain ⟨v5,e5,hv5,hn5⟩:=f6 d6
         rw [f7 d7,e5] at e151
         have t151:=e151; simp only [Act.eval,Array.getD_eq_getD_getElem?] at t151
         refine wpOp_runs (v:=.int .i64 f) rfl rfl (by simp [execOp,go_sem,t151]) ⟨_,_,rfl,rfl,⟨hBw,hG,⟨cY,hzY,hkY⟩,hT.on 6 rfl rfl,ku1 f6 rfl rfl,ku2 (P:=Eq) f7 rfl rfl rfl,ku2 f8 rfl rfl rfl,ku1 f10 rfl rfl⟩⟩
        ·have d8:=getD_ft (haf _ rfl ⟨8,.data⟩ (by simp) rfl)
         have d7:=(getD_ft (hcl 8 _ rfl d8 ⟨7,.data⟩ (by simp) rfl))
         have d6:=(getD_ft (hcl 7 _ rfl d7 ⟨6,.data⟩ (by simp) rfl))
         obtain ⟨v5,e5,hv5,hn5⟩:=f6 d6
         have hv7:=PlV.seven e5 (f8 d8) hv5
         obtain ⟨cs7,hz7,ho7,hx7⟩:=hv7.agg
         have e22:b.eval (.tmp 22) = .pointer (some ⟨(bW + 1 + 1),0,none⟩):=by rw [hbe,eval_out _ _ _ (by decide),ha0]; rfl
         have e159:b.eval (.tmp 159) = .agg cs7:=by rw [hbe,eval_in _ _ _ 8 (by decide) rfl (by rw [hz]; decide)]; exact hx7
         refine wpOp_of rfl ?_
         rw [if_pos (by simp [Region.wanted])]
         refine wp_store_mid 25 (.tmp 22) (.tmp 159) rfl (bW + 1 + 1) 0 cs7 e22 e159 ?_ (by rw [hz7]; kernel_rfl) ho7 ?_
         ·intro j hj
          rw [Nat.zero_add]
          refine ⟨?_,hkY.free j⟩
          rw [hkY.cell j]
          have:j < cY.size:=by omega
          simp [this]
         ·refine ⟨_,_,rfl,rfl,⟨set_below _ (show wr.heap.size ≤ bW + 1 + 1 by omega) _ _ hBw,grown_trans hG (grown_sets _ _ _),⟨cs7,hz7,set_whole hkY (by rw [hz7,hzY])⟩,hT.off rfl,fun h => (ku1 (i:=10) f6 rfl rfl h).far (grown_sets _ _ _),ku2 (P:=Eq) f7 rfl rfl rfl,ku2 f8 rfl rfl rfl,fun _ => by rw [upd_off x _ rfl]; exact ⟨cs7,hz7,hx7,set_whole hkY (by rw [hz7,hzY])⟩⟩⟩
        ·have d9:=getD_ft (haf _ rfl ⟨9,.data⟩ (by simp) rfl)
         have e160:b.eval (.tmp 160) = .int .i64 f:=by rw [hbe,eval_in _ _ _ 9 (by decide) rfl (by rw [hz]; decide)]; exact (hT.get 6 rfl d9)
         have t160:=e160; simp only [Act.eval,Array.getD_eq_getD_getElem?] at t160
         refine wpOp_runs (v:=.int .i64 f) rfl rfl (by simp [execOp,go_sem,t160]) ⟨_,_,rfl,rfl,⟨hBw,hG,⟨cY,hzY,hkY⟩,hT.on 7 rfl rfl,ku1 f6 rfl rfl,ku2 (P:=Eq) f7 rfl rfl rfl,ku2 f8 rfl rfl rfl,ku1 f10 rfl rfl⟩⟩
       intro V x wq hall hF
       obtain ⟨hBw,hG,⟨cY,hzY,hkY⟩,hT,f6,f7,f8,f10⟩:=hF
       obtain ⟨cs,hz4,hx8,hZN⟩:=f10 (hall 10 (by decide))
       obtain ⟨v5,e5,hv5,hn5⟩:=f6 (hall 6 (by decide))
       have hv7:=PlV.seven e5 (f8 (hall 8 (by decide))) hv5
       have hx11:=hT.get 7 rfl (hall 11 (by decide))
       obtain ⟨B7,k7,q7,B8,k8,q8,e7,hoZ⟩:=hv7
       rw [e7] at hx8
       injection hx8 with hx8
       subst hx8
       clear hT f6 f7 f8 f10 hall e5 hv5 e7 hz4 hn5 cY hzY hkY
       subst ha0
       simp only [List.map_cons,List.map_nil,putAll,hx11]
       clear hx11
       go_simp
       replace hW:=hW.grown hG (by simp only [ne_eq,Option.some.injEq]; omega)
       replace hY:=hY.grown hG (by simp only [ne_eq,Option.some.injEq]; omega)
       replace hoW:=hoW.other hG (fun g hg => by have:=hw1 g hg; omega) (fun g hg => by have:=hw2 g hg; omega)
       replace hoY:=hoY.other hG (fun g hg => by have:=(hoY.o1.lt g hg).1; omega) (fun g hg => by have:=(hoY.o.lt g hg).1; omega)
       clear hZ hG hR
       have hZ:=hZN
       have hR:=hBw
       clear hZN hBw
       go_wp2
       go_meet
       exact ⟨y,f,A7,n7,c7,A8,n8,c8,B7,k7,q7,B8,k8,q8,rfl,rfl,rfl,HYR,hR,hW,hY,hZ,hoW.at_,hoY.down HRS.out,hoZ.at_⟩
      ·have g1:(u.dq == 0) = false:=by simpa using hdo
       clear hdo
       obtain ⟨y,hy⟩:∃ y,advP px u.nn = y:=⟨_,rfl⟩
       obtain ⟨f,hf⟩:∃ f,advQ px u.nn = f:=⟨_,rfl⟩
       obtain ⟨gs,hg⟩:∃ g,advG px u.nn = g:=⟨_,rfl⟩
       have HY:=Lib.hid hy
       have HF:=Lib.hid hf
       have HG:=Lib.hid hg
       have HYR:=Lib.hid (show y.right = true by rw [← hy]; exact adv_right HXR.out)
       have hlen:=(adv_len px u.nn).len
       rw [hy,hg] at hlen
       have HLEN:=Lib.hid hlen
       clear hy hf hg hlen
       have HRR:=Lib.hid (fun w'' (hb:Below ws.heap.size ws w'') => hR.trans (hb.mono hR.size))
       go_upto_region 32 with fail
       clear g1 e0
       refine gen_frame ?_
       intro a0 ha0
       try simp only [List.append]
       refine wp_region_frames rfl (by kernel_rfl) (by kernel_rfl) (fun V x w' => Below ws.heap.size ws w' ∧ TF [(0,.agg #[.slice A5 n5 c5,.slice A6 n6 c6,.int .i64 px.clk,.int .i64 px.ver]),(1,.slice (some al) i cl),(2,.int .i64 j),(3,.pointer (some (al.add (j * 15)))),(4,.pointer (some ⟨(al.add (j * 15)).block,(al.add (j * 15)).off + 14,none⟩)),(5,.int .i64 u.nn),(10,.int .i64 f),(14,.int .i64 f)] V x ∧ (V.getD 6 true = true → GotB w' ws.heap.size y gs f (x 6)) ∧ (V.getD 7 true = true → x 7 = x 6) ∧ (V.getD 8 true = true → TupB f (x 6) (x 8)) ∧ (V.getD 9 true = true → TupC f (x 6) (x 9)) ∧ (V.getD 11 true = true → VarB w' ws.heap.size f (V.getD 6 true) (x 11) (x 6)) ∧ (V.getD 12 true = true → StoB w' ws.heap.size (x 11) (x 8)) ∧ (V.getD 13 true = true → x 13 = x 9)) ?_ ?_ ?_
       ·intro x'
        refine ⟨(Below.refl _ _).drew,TF.none rfl,?_,?_,?_,?_,?_,?_,?_⟩ <;> exact fun h => by simp at h
       ·intro V x b w' hbq hsz hF i' hi' hun haf hcl
        obtain ⟨hBw,hT,f6,f7,f8,f9,f11,f12,f13⟩:=hF
        have hbe:b = putAll a0 [some 162,some 163,some 164,some 165,some 166,some 167,some 168,some 161,some 169,some 170,some 171,some 26,none,some 27,some 28] x 0:=hbq
        have hz:a0.tmps.size = 236:=by rw [ha0]; rfl
        have t18:b.tmps[18]?.getD undef = .pointer (some ⟨wX.heap.size,0,none⟩):=by have e:b.eval (.tmp 18) = .pointer (some ⟨wX.heap.size,0,none⟩):=(by rw [hbe,eval_out _ _ _ (by decide),ha0]; rfl); simpa [Act.eval] using e
        have t1:b.tmps[1]?.getD undef = .slice (some al) i cl:=by have e:b.eval (.tmp 1) = .slice (some al) i cl:=(by rw [hbe,eval_out _ _ _ (by decide),ha0]; rfl); simpa [Act.eval] using e
        have t19:b.tmps[19]?.getD undef = .int .i64 j:=by have e:b.eval (.tmp 19) = .int .i64 j:=(by rw [hbe,eval_out _ _ _ (by decide),ha0]; rfl); simpa [Act.eval] using e
        clear hbq
        have hi2':i' < 15:=hi'
        clear hi'
        obtain rfl | rfl | rfl | rfl | rfl | rfl | rfl | rfl | rfl | rfl | rfl | rfl | rfl | rfl | rfl:i' = 0 ∨ i' = 1 ∨ i' = 2 ∨ i' = 3 ∨ i' = 4 ∨ i' = 5 ∨ i' = 6 ∨ i' = 7 ∨ i' = 8 ∨ i' = 9 ∨ i' = 10 ∨ i' = 11 ∨ i' = 12 ∨ i' = 13 ∨ i' = 14:=by omega
        ·have hX:=HRX.out _ (HRR.out _ hBw)
         have n_0:w'.cell? ⟨wX.heap.size,0,none⟩ = some (.slice A5 n5 c5):=hX.cell 0
         have n_1:w'.cell? ⟨wX.heap.size,1,none⟩ = some (.slice A6 n6 c6):=hX.cell 1
         have n_2:w'.cell? ⟨wX.heap.size,2,none⟩ = some (.int .i64 px.clk):=hX.cell 2
         have n_3:w'.cell? ⟨wX.heap.size,3,none⟩ = some (.int .i64 px.ver):=hX.cell 3
         have lt_n:=hX.lt
         refine wpOp_runs (v:=.agg #[.slice A5 n5 c5,.slice A6 n6 c6,.int .i64 px.clk,.int .i64 px.ver]) rfl rfl (by simp [execOp,go_sem,t18,n_0,n_1,n_2,n_3,lt_n]) ⟨_,_,rfl,rfl,⟨hBw,hT.on 0 rfl rfl,ku1 f6 rfl rfl,ku2 (P:=Eq) f7 rfl rfl rfl,ku2 f8 rfl rfl rfl,ku2 f9 rfl rfl rfl,ku3 f11 rfl rfl rfl rfl,ku2 f12 rfl rfl rfl,ku2 (P:=Eq) f13 rfl rfl rfl⟩⟩
        ·refine wpOp_runs (v:=.slice (some al) i cl) rfl rfl (by simp [execOp,go_sem,t1]) ⟨_,_,rfl,rfl,⟨hBw,hT.on 1 rfl rfl,ku1 f6 rfl rfl,ku2 (P:=Eq) f7 rfl rfl rfl,ku2 f8 rfl rfl rfl,ku2 f9 rfl rfl rfl,ku3 f11 rfl rfl rfl rfl,ku2 f12 rfl rfl rfl,ku2 (P:=Eq) f13 rfl rfl rfl⟩⟩
        ·refine wpOp_runs (v:=.int .i64 j) rfl rfl (by simp [execOp,go_sem,t19]) ⟨_,_,rfl,rfl,⟨hBw,hT.on 2 rfl rfl,ku1 f6 rfl rfl,ku2 (P:=Eq) f7 rfl rfl rfl,ku2 f8 rfl rfl rfl,ku2 f9 rfl rfl rfl,ku3 f11 rfl rfl rfl rfl,ku2 f12 rfl rfl rfl,ku2 (P:=Eq) f13 rfl rfl rfl⟩⟩
        ·have d1:=getD_ft (haf _ rfl ⟨1,.data⟩ (by simp) rfl)
         have d2:=getD_ft (haf _ rfl ⟨2,.data⟩ (by simp) rfl)
         have e163:b.eval (.tmp 163) = .slice (some al) i cl:=by rw [hbe,eval_in _ _ _ 1 (by decide) rfl (by rw [hz]; decide)]; exact (hT.get 1 rfl d1)
         have e164:b.eval (.tmp 164) = .int .i64 j:=by rw [hbe,eval_in _ _ _ 2 (by decide) rfl (by rw [hz]; decide)]; exact (hT.get 2 rfl d2)
         have t163:=e163; simp only [Act.eval,Array.getD_eq_getD_getElem?] at t163
         have t164:=e164; simp only [Act.eval,Array.getD_eq_getD_getElem?] at t164
         refine wpOp_runs (v:=.pointer (some (al.add (j * 15)))) rfl rfl (by simp [execOp,go_sem,t163,t164,hin2,hi0]) ⟨_,_,rfl,rfl,⟨hBw,hT.on 3 rfl rfl,ku1 f6 rfl rfl,ku2 (P:=Eq) f7 rfl rfl rfl,ku2 f8 rfl rfl rfl,ku2 f9 rfl rfl rfl,ku3 f11 rfl rfl rfl rfl,ku2 f12 rfl rfl rfl,ku2 (P:=Eq) f13 rfl rfl rfl⟩⟩
        ·have d3:=getD_ft (haf _ rfl ⟨3,.data⟩ (by simp) rfl)
         have e165:b.eval (.tmp 165) = .pointer (some (al.add (j * 15))):=by rw [hbe,eval_in _ _ _ 3 (by decide) rfl (by rw [hz]; decide)]; exact (hT.get 3 rfl d3)
         have t165:=e165; simp only [Act.eval,Array.getD_eq_getD_getElem?] at t165
         refine wpOp_runs (v:=.pointer (some ⟨(al.add (j * 15)).block,(al.add (j * 15)).off + 14,none⟩)) rfl rfl (by simp [execOp,go_sem,t165]) ⟨_,_,rfl,rfl,⟨hBw,hT.on 4 rfl rfl,ku1 f6 rfl rfl,ku2 (P:=Eq) f7 rfl rfl rfl,ku2 f8 rfl rfl rfl,ku2 f9 rfl rfl rfl,ku3 f11 rfl rfl rfl rfl,ku2 f12 rfl rfl rfl,ku2 (P:=Eq) f13 rfl rfl rfl⟩⟩
        ·have d4:=getD_ft (haf _ rfl ⟨4,.data⟩ (by simp) rfl)
         have e166:b.eval (.tmp 166) = .pointer (some ⟨(al.add (j * 15)).block,(al.add (j * 15)).off + 14,none⟩):=by rw [hbe,eval_in _ _ _ 4 (by decide) rfl (by rw [hz]; decide)]; exact (hT.get 4 rfl d4)
         have t166:=e166; simp only [Act.eval,Array.getD_eq_getD_getElem?] at t166
         have y0:=HEN.out _ (HRR.out _ hBw)
         refine wpOp_runs (v:=.int .i64 u.nn) rfl rfl (by simp [execOp,go_sem,t166,y0]) ⟨_,_,rfl,rfl,⟨hBw,hT.on 5 rfl rfl,ku1 f6 rfl rfl,ku2 (P:=Eq) f7 rfl rfl rfl,ku2 f8 rfl rfl rfl,ku2 f9 rfl rfl rfl,ku3 f11 rfl rfl rfl rfl,ku2 f12 rfl rfl rfl,ku2 (P:=Eq) f13 rfl rfl rfl⟩⟩
        ·have d0:=getD_ft (haf _ rfl ⟨0,.data⟩ (by simp) rfl)
         have d5:=getD_ft (haf _ rfl ⟨5,.data⟩ (by simp) rfl)
         have e162:b.eval (.tmp 162) = .agg #[.slice A5 n5 c5,.slice A6 n6 c6,.int .i64 px.clk,.int .i64 px.ver]:=by rw [hbe,eval_in _ _ _ 0 (by decide) rfl (by rw [hz]; decide)]; exact (hT.get 0 rfl d0)
         have e167:b.eval (.tmp 167) = .int .i64 u.nn:=by rw [hbe,eval_in _ _ _ 5 (by decide) rfl (by rw [hz]; decide)]; exact (hT.get 5 rfl d5)
         refine wpOp_of rfl ?_
         refine step_call rfl 25 #[.tmp 162,.tmp 167] _ rfl #[.agg #[.slice A5 n5 c5,.slice A6 n6 c6,.int .i64 px.clk,.int .i64 px.ver],.int .i64 u.nn] (by simp [e162,e167]) Tryz.func25 rfl rfl ?_
         refine (padv_own A5 n5 c5 A6 n6 c6 px u.nn w' (HRL.out _ (HRR.out _ hBw)) (Pl.right_spec.1 HXR.out).v0 (Pl.right_spec.1 HXR.out).v1).mono ?_
         rintro e w'' ⟨A7,n7,c7,A8,n8,c8,A9,n9,c9,rfl,hown,hlg,hog,hb⟩
         rw [HY.out] at hown
         rw [HG.out] at hlg hog
         rw [HY.out,HF.out]
         have hgs:=hBw.size
         exact ⟨_,rfl,_,_,rfl,rfl,⟨hBw.trans (hb.mono hBw.size),hT.off rfl,fun _ => by rw [upd_same]; exact GotB.of hgs hown hlg hog,fun h => absurd (getD_ft (hcl 7 _ rfl (un_set (i:=6) rfl h) ⟨6,.data⟩ (by simp) rfl)) (by rw [hun]; decide),fun h => absurd (getD_ft (hcl 7 _ rfl (getD_ft (hcl 8 _ rfl (un_set (i:=6) rfl h) ⟨7,.data⟩ (by simp) rfl)) ⟨6,.data⟩ (by simp) rfl)) (by rw [hun]; decide),fun h => absurd (getD_ft (hcl 7 _ rfl (getD_ft (hcl 9 _ rfl (un_set (i:=6) rfl h) ⟨7,.data⟩ (by simp) rfl)) ⟨6,.data⟩ (by simp) rfl)) (by rw [hun]; decide),fun h => by have h9:=f11 (un_set (i:=6) rfl h); rw [upd_same,upd_off (i:=6) (a:=11) x _ rfl]; exact VarB.got h9 hb hown hog,fun h => absurd (getD_ft (hcl 7 _ rfl (getD_ft (hcl 8 _ rfl (getD_ft (hcl 12 _ rfl (un_set (i:=6) rfl h) ⟨8,.data⟩ (by simp) rfl)) ⟨7,.data⟩ (by simp) rfl)) ⟨6,.data⟩ (by simp) rfl)) (by rw [hun]; decide),fun h => absurd (getD_ft (hcl 7 _ rfl (getD_ft (hcl 9 _ rfl (getD_ft (hcl 13 _ rfl (un_set (i:=6) rfl h) ⟨9,.data⟩ (by simp) rfl)) ⟨7,.data⟩ (by simp) rfl)) ⟨6,.data⟩ (by simp) rfl)) (by rw [hun]; decide)⟩⟩
        ·have d6:=getD_ft (haf _ rfl ⟨6,.data⟩ (by simp) rfl)
         have e168:b.eval (.tmp 168) = x 6:=by rw [hbe,eval_in _ _ _ 6 (by decide) rfl (by rw [hz]; decide)]
         obtain ⟨v5,g5,e5,hv5,hg5⟩:=f6 d6
         rw [e5] at e168
         have t168:=e168; simp only [Act.eval,Array.getD_eq_getD_getElem?] at t168
         refine wpOp_runs (v:=.tuple #[v5,g5,.int .i64 f]) rfl rfl (by simp [execOp,go_sem,t168]) ⟨_,_,rfl,rfl,⟨hBw,hT.off rfl,ku1 f6 rfl rfl,fun _ => by rw [upd_same,upd_off x _ rfl,e5],fun h => absurd (getD_ft (hcl 8 _ rfl (un_set (i:=7) rfl h) ⟨7,.data⟩ (by simp) rfl)) (by rw [hun]; decide),fun h => absurd (getD_ft (hcl 9 _ rfl (un_set (i:=7) rfl h) ⟨7,.data⟩ (by simp) rfl)) (by rw [hun]; decide),ku3 f11 rfl rfl rfl rfl,fun h => absurd (getD_ft (hcl 8 _ rfl (getD_ft (hcl 12 _ rfl (un_set (i:=7) rfl h) ⟨8,.data⟩ (by simp) rfl)) ⟨7,.data⟩ (by simp) rfl)) (by rw [hun]; decide),fun h => absurd (getD_ft (hcl 9 _ rfl (getD_ft (hcl 13 _ rfl (un_set (i:=7) rfl h) ⟨9,.data⟩ (by simp) rfl)) ⟨7,.data⟩ (by simp) rfl)) (by rw [hun]; decide)⟩⟩
        ·have d7:=getD_ft (haf _ rfl ⟨7,.data⟩ (by simp) rfl)
         have d6:=(getD_ft (hcl 7 _ rfl d7 ⟨6,.data⟩ (by simp) rfl))
         have e161:b.eval (.tmp 161) = x 7:=by rw [hbe,eval_in _ _ _ 7 (by decide) rfl (by rw [hz]; decide)]
         obtain ⟨v5,g5,e5,hv5,hg5⟩:=f6 d6
         rw [f7 d7,e5] at e161
         have t161:=e161; simp only [Act.eval,Array.getD_eq_getD_getElem?] at t161
         refine wpOp_runs (v:=v5) rfl rfl (by simp [execOp,go_sem,t161]) ⟨_,_,rfl,rfl,⟨hBw,hT.off rfl,ku1 f6 rfl rfl,ku2 (P:=Eq) f7 rfl rfl rfl,fun _ => by rw [upd_same,upd_off x _ rfl,e5]; exact ⟨_,rfl⟩,ku2 f9 rfl rfl rfl,ku3 f11 rfl rfl rfl rfl,fun h => absurd (getD_ft (hcl 12 _ rfl (un_set (i:=8) rfl h) ⟨8,.data⟩ (by simp) rfl)) (by rw [hun]; decide),ku2 (P:=Eq) f13 rfl rfl rfl⟩⟩
        ·have d7:=getD_ft (haf _ rfl ⟨7,.data⟩ (by simp) rfl)
         have d6:=(getD_ft (hcl 7 _ rfl d7 ⟨6,.data⟩ (by simp) rfl))
         have e161:b.eval (.tmp 161) = x 7:=by rw [hbe,eval_in _ _ _ 7 (by decide) rfl (by rw [hz]; decide)]
         obtain ⟨v5,g5,e5,hv5,hg5⟩:=f6 d6
         rw [f7 d7,e5] at e161
         have t161:=e161; simp only [Act.eval,Array.getD_eq_getD_getElem?] at t161
         refine wpOp_runs (v:=g5) rfl rfl (by simp [execOp,go_sem,t161]) ⟨_,_,rfl,rfl,⟨hBw,hT.off rfl,ku1 f6 rfl rfl,ku2 (P:=Eq) f7 rfl rfl rfl,ku2 f8 rfl rfl rfl,fun _ => by rw [upd_same,upd_off x _ rfl,e5]; exact ⟨_,rfl⟩,ku3 f11 rfl rfl rfl rfl,ku2 f12 rfl rfl rfl,fun h => absurd (getD_ft (hcl 13 _ rfl (un_set (i:=9) rfl h) ⟨9,.data⟩ (by simp) rfl)) (by rw [hun]; decide)⟩⟩
        ·have d7:=getD_ft (haf _ rfl ⟨7,.data⟩ (by simp) rfl)
         have d6:=(getD_ft (hcl 7 _ rfl d7 ⟨6,.data⟩ (by simp) rfl))
         have e161:b.eval (.tmp 161) = x 7:=by rw [hbe,eval_in _ _ _ 7 (by decide) rfl (by rw [hz]; decide)]
         obtain ⟨v5,g5,e5,hv5,hg5⟩:=f6 d6
         rw [f7 d7,e5] at e161
         have t161:=e161; simp only [Act.eval,Array.getD_eq_getD_getElem?] at t161
         refine wpOp_runs (v:=.int .i64 f) rfl rfl (by simp [execOp,go_sem,t161]) ⟨_,_,rfl,rfl,⟨hBw,hT.on 6 rfl rfl,ku1 f6 rfl rfl,ku2 (P:=Eq) f7 rfl rfl rfl,ku2 f8 rfl rfl rfl,ku2 f9 rfl rfl rfl,ku3 f11 rfl rfl rfl rfl,ku2 f12 rfl rfl rfl,ku2 (P:=Eq) f13 rfl rfl rfl⟩⟩
        ·have hb:Below w'.heap.size w' (w'.alloc (.cells #[.slice none 0 0,.slice none 0 0,.int .i64 0,.int .i64 0] 25)):=by (repeat (first | exact Below.refl _ _ | refine Below.alloc ?_ (by first | omega | (simp; done) | (simp; omega)) _ | refine Below.setCell ?_ (by first | omega | (simp; done) | (simp; omega)) _ | refine Below.drew ?_))
         have hbs:=hBw.size
         refine wpOp_runs (v:=.pointer (some ⟨w'.heap.size,0,none⟩)) (w':=w'.alloc (.cells #[.slice none 0 0,.slice none 0 0,.int .i64 0,.int .i64 0] 25)) rfl rfl (by simp [execOp,go_sem]) ⟨_,_,rfl,rfl,⟨hBw.trans (hb.mono hBw.size),hT.off rfl,fun h => (ku1 (i:=11) f6 rfl rfl h).below hb,ku2 (P:=Eq) f7 rfl rfl rfl,ku2 f8 rfl rfl rfl,ku2 f9 rfl rfl rfl,fun _ => by rw [upd_same,upd_off x _ rfl,getD_set_ne true (show 11 ≠ 6 by decide)]; exact VarB.new hbs f6,fun h => absurd (getD_ft (hcl 12 _ rfl (un_set (i:=11) rfl h) ⟨11,.data⟩ (by simp) rfl)) (by rw [hun]; decide),ku2 (P:=Eq) f13 rfl rfl rfl⟩⟩
        ·have d11:=getD_ft (haf _ rfl ⟨11,.data⟩ (by simp) rfl)
         have d8:=getD_ft (haf _ rfl ⟨8,.data⟩ (by simp) rfl)
         have d7:=(getD_ft (hcl 8 _ rfl d8 ⟨7,.data⟩ (by simp) rfl))
         have d6:=(getD_ft (hcl 7 _ rfl d7 ⟨6,.data⟩ (by simp) rfl))
         obtain ⟨b9,hl9,hx9,⟨cz,hz9,hk9⟩,hn9'⟩:=f11 d11
         obtain ⟨v5,g5,e5,hv5,hg5⟩:=f6 d6
         have hn9:=hn9' d6 _ _ e5
         obtain ⟨g8,e8⟩:=f8 d8
         have hv7:=PlV.seven3 e5 e8 hv5
         obtain ⟨cs7,hz7,ho7,hx7⟩:=hv7.agg
         have e26:b.eval (.tmp 26) = .pointer (some ⟨b9,0,none⟩):=by rw [hbe,eval_in _ _ _ 11 (by decide) rfl (by rw [hz]; decide)]; exact hx9
         have e169:b.eval (.tmp 169) = .agg cs7:=by rw [hbe,eval_in _ _ _ 8 (by decide) rfl (by rw [hz]; decide)]; exact hx7
         refine wpOp_of rfl ?_
         rw [if_pos (by simp [Region.wanted])]
         refine wp_store_mid 25 (.tmp 26) (.tmp 169) rfl b9 0 cs7 e26 e169 ?_ (by rw [hz7]; kernel_rfl) ho7 ?_
         ·intro j hj
          rw [Nat.zero_add]
          refine ⟨?_,hk9.free j⟩
          rw [hk9.cell j]
          have:j < cz.size:=by omega
          simp [this]
         ·refine ⟨_,_,rfl,rfl,⟨set_below b9 hl9 _ _ hBw,hT.off rfl,fun h => by rw [upd_off x _ rfl]; exact ⟨v5,g5,e5,hv5.far (grown_sets _ _ _) hn9.1,hg5.far (grown_sets _ _ _) hn9.2⟩,ku2 (P:=Eq) f7 rfl rfl rfl,ku2 f8 rfl rfl rfl,ku2 f9 rfl rfl rfl,fun h => by rw [upd_off x _ rfl,upd_off x _ rfl]; exact ⟨b9,hl9,hx9,⟨_,hz7,set_whole hk9 (by rw [hz7,hz9])⟩,fun _ => hn9' d6⟩,fun _ => by rw [upd_off x _ rfl,upd_off x _ rfl]; exact ⟨b9,cs7,hz7,hl9,hx9,hx7,set_whole hk9 (by rw [hz7,hz9])⟩,ku2 (P:=Eq) f13 rfl rfl rfl⟩⟩
        ·have d9:=getD_ft (haf _ rfl ⟨9,.data⟩ (by simp) rfl)
         have e170:b.eval (.tmp 170) = x 9:=by rw [hbe,eval_in _ _ _ 9 (by decide) rfl (by rw [hz]; decide)]
         have t170:=e170; simp only [Act.eval,Array.getD_eq_getD_getElem?] at t170
         refine wpOp_runs (v:=x 9) rfl rfl (by simp [execOp,go_sem,t170]) ⟨_,_,rfl,rfl,⟨hBw,hT.off rfl,ku1 f6 rfl rfl,ku2 (P:=Eq) f7 rfl rfl rfl,ku2 f8 rfl rfl rfl,ku2 f9 rfl rfl rfl,ku3 f11 rfl rfl rfl rfl,ku2 f12 rfl rfl rfl,fun _ => by rw [upd_same,upd_off x _ rfl]⟩⟩
        ·have d10:=getD_ft (haf _ rfl ⟨10,.data⟩ (by simp) rfl)
         have e171:b.eval (.tmp 171) = .int .i64 f:=by rw [hbe,eval_in _ _ _ 10 (by decide) rfl (by rw [hz]; decide)]; exact (hT.get 6 rfl d10)
         have t171:=e171; simp only [Act.eval,Array.getD_eq_getD_getElem?] at t171
         refine wpOp_runs (v:=.int .i64 f) rfl rfl (by simp [execOp,go_sem,t171]) ⟨_,_,rfl,rfl,⟨hBw,hT.on 7 rfl rfl,ku1 f6 rfl rfl,ku2 (P:=Eq) f7 rfl rfl rfl,ku2 f8 rfl rfl rfl,ku2 f9 rfl rfl rfl,ku3 f11 rfl rfl rfl rfl,ku2 f12 rfl rfl rfl,ku2 (P:=Eq) f13 rfl rfl rfl⟩⟩
       intro V x wp hall hF
       obtain ⟨hBw,hT,f6,f7,f8,f9,f11,f12,f13⟩:=hF
       obtain ⟨bN,cs,hz4,hbN,hx11,hx8,hN⟩:=f12 (hall 12 (by decide))
       obtain ⟨v5,g5,e5,hv5,hg5⟩:=f6 (hall 6 (by decide))
       obtain ⟨g8,e8⟩:=f8 (hall 8 (by decide))
       obtain ⟨v8,e9⟩:=f9 (hall 9 (by decide))
       have hv7:=PlV.seven3 e5 e8 hv5
       have hg7:=GoV.seven3 e5 e9 hg5
       have hx13:=f13 (hall 13 (by decide))
       have hx14:=hT.get 7 rfl (hall 14 (by decide))
       obtain ⟨A7,n7,c7,A8,n8,c8,e7,hoY⟩:=hv7
       obtain ⟨A9,n9,c9,e10,hl9,hog⟩:=hg7
       rw [e7] at hx8
       injection hx8 with hx8
       subst hx8
       rw [e10] at hx13
       clear hT f6 f7 f8 f9 f11 f12 f13 hall e5 hv5 hg5 e7 e8 e9 e10 hz4
       subst ha0
       simp only [List.map_cons,List.map_nil,putAll,hx11,hx13,hx14]
       clear hx11 hx13 hx14
       go_simp
       have hltZ:=hZ.lt
       have hgz:=hBw.size
       replace hW:=hW.below hBw hW.lt
       replace hY:=hY.below hBw hY.lt
       replace hZ:=hZ.below hBw hZ.lt
       replace hoW:=hoW.below hBw
       replace hR:=hR.trans (hBw.mono hR.size)
       clear HRR hBw
       have HRR:=Lib.hid (fun w'' (hb:Below wp.heap.size wp w'') => hR.trans (hb.mono hR.size))
       have hltN:=hN.lt
       go_upto_region 33 with fail
       refine gen_frame ?_
       intro a0 ha0
       try simp only [List.append]
       refine wp_region_frames rfl (by kernel_rfl) (by kernel_rfl) (fun V x w' => Below wp.heap.size wp w' ∧ TF [(0,.agg #[.slice A5 n5 c5,.slice A6 n6 c6,.int .i64 px.clk,.int .i64 px.ver]),(1,.slice (some al) i cl),(2,.int .i64 j),(3,.pointer (some (al.add (j * 15)))),(4,.pointer (some ⟨(al.add (j * 15)).block,(al.add (j * 15)).off + 14,none⟩)),(5,.int .i64 u.nn),(10,.int .i64 f),(14,.int .i64 f)] V x ∧ (V.getD 6 true = true → GotB w' wp.heap.size y gs f (x 6)) ∧ (V.getD 7 true = true → x 7 = x 6) ∧ (V.getD 8 true = true → TupB f (x 6) (x 8)) ∧ (V.getD 9 true = true → TupC f (x 6) (x 9)) ∧ (V.getD 11 true = true → VarB w' wp.heap.size f (V.getD 6 true) (x 11) (x 6)) ∧ (V.getD 12 true = true → StoB w' wp.heap.size (x 11) (x 8)) ∧ (V.getD 13 true = true → x 13 = x 9)) ?_ ?_ ?_
       ·intro x'
        refine ⟨(Below.refl _ _).drew,TF.none rfl,?_,?_,?_,?_,?_,?_,?_⟩ <;> exact fun h => by simp at h
       ·intro V x b w' hbq hsz hF i' hi' hun haf hcl
        obtain ⟨hBw,hT,f6,f7,f8,f9,f11,f12,f13⟩:=hF
        have hbe:b = putAll a0 [some 173,some 174,some 175,some 176,some 177,some 178,some 179,some 172,some 180,some 181,some 182,some 29,none,some 30,some 31] x 0:=hbq
        have hz:a0.tmps.size = 236:=by rw [ha0]; rfl
        have t18:b.tmps[18]?.getD undef = .pointer (some ⟨wX.heap.size,0,none⟩):=by have e:b.eval (.tmp 18) = .pointer (some ⟨wX.heap.size,0,none⟩):=(by rw [hbe,eval_out _ _ _ (by decide),ha0]; rfl); simpa [Act.eval] using e
        have t1:b.tmps[1]?.getD undef = .slice (some al) i cl:=by have e:b.eval (.tmp 1) = .slice (some al) i cl:=(by rw [hbe,eval_out _ _ _ (by decide),ha0]; rfl); simpa [Act.eval] using e
        have t19:b.tmps[19]?.getD undef = .int .i64 j:=by have e:b.eval (.tmp 19) = .int .i64 j:=(by rw [hbe,eval_out _ _ _ (by decide),ha0]; rfl); simpa [Act.eval] using e
        clear hbq
        have hi2':i' < 15:=hi'
        clear hi'
        obtain rfl | rfl | rfl | rfl | rfl | rfl | rfl | rfl | rfl | rfl | rfl | rfl | rfl | rfl | rfl:i' = 0 ∨ i' = 1 ∨ i' = 2 ∨ i' = 3 ∨ i' = 4 ∨ i' = 5 ∨ i' = 6 ∨ i' = 7 ∨ i' = 8 ∨ i' = 9 ∨ i' = 10 ∨ i' = 11 ∨ i' = 12 ∨ i' = 13 ∨ i' = 14:=by omega
        ·have hX:=HRX.out _ (HRR.out _ hBw)
         have n_0:w'.cell? ⟨wX.heap.size,0,none⟩ = some (.slice A5 n5 c5):=hX.cell 0
         have n_1:w'.cell? ⟨wX.heap.size,1,none⟩ = some (.slice A6 n6 c6):=hX.cell 1
         have n_2:w'.cell? ⟨wX.heap.size,2,none⟩ = some (.int .i64 px.clk):=hX.cell 2
         have n_3:w'.cell? ⟨wX.heap.size,3,none⟩ = some (.int .i64 px.ver):=hX.cell 3
         have lt_n:=hX.lt
         refine wpOp_runs (v:=.agg #[.slice A5 n5 c5,.slice A6 n6 c6,.int .i64 px.clk,.int .i64 px.ver]) rfl rfl (by simp [execOp,go_sem,t18,n_0,n_1,n_2,n_3,lt_n]) ⟨_,_,rfl,rfl,⟨hBw,hT.on 0 rfl rfl,ku1 f6 rfl rfl,ku2 (P:=Eq) f7 rfl rfl rfl,ku2 f8 rfl rfl rfl,ku2 f9 rfl rfl rfl,ku3 f11 rfl rfl rfl rfl,ku2 f12 rfl rfl rfl,ku2 (P:=Eq) f13 rfl rfl rfl⟩⟩
        ·refine wpOp_runs (v:=.slice (some al) i cl) rfl rfl (by simp [execOp,go_sem,t1]) ⟨_,_,rfl,rfl,⟨hBw,hT.on 1 rfl rfl,ku1 f6 rfl rfl,ku2 (P:=Eq) f7 rfl rfl rfl,ku2 f8 rfl rfl rfl,ku2 f9 rfl rfl rfl,ku3 f11 rfl rfl rfl rfl,ku2 f12 rfl rfl rfl,ku2 (P:=Eq) f13 rfl rfl rfl⟩⟩
        ·refine wpOp_runs (v:=.int .i64 j) rfl rfl (by simp [execOp,go_sem,t19]) ⟨_,_,rfl,rfl,⟨hBw,hT.on 2 rfl rfl,ku1 f6 rfl rfl,ku2 (P:=Eq) f7 rfl rfl rfl,ku2 f8 rfl rfl rfl,ku2 f9 rfl rfl rfl,ku3 f11 rfl rfl rfl rfl,ku2 f12 rfl rfl rfl,ku2 (P:=Eq) f13 rfl rfl rfl⟩⟩
        ·have d1:=getD_ft (haf _ rfl ⟨1,.data⟩ (by simp) rfl)
         have d2:=getD_ft (haf _ rfl ⟨2,.data⟩ (by simp) rfl)
         have e174:b.eval (.tmp 174) = .slice (some al) i cl:=by rw [hbe,eval_in _ _ _ 1 (by decide) rfl (by rw [hz]; decide)]; exact (hT.get 1 rfl d1)
         have e175:b.eval (.tmp 175) = .int .i64 j:=by rw [hbe,eval_in _ _ _ 2 (by decide) rfl (by rw [hz]; decide)]; exact (hT.get 2 rfl d2)
         have t174:=e174; simp only [Act.eval,Array.getD_eq_getD_getElem?] at t174
         have t175:=e175; simp only [Act.eval,Array.getD_eq_getD_getElem?] at t175
         refine wpOp_runs (v:=.pointer (some (al.add (j * 15)))) rfl rfl (by simp [execOp,go_sem,t174,t175,hin2,hi0]) ⟨_,_,rfl,rfl,⟨hBw,hT.on 3 rfl rfl,ku1 f6 rfl rfl,ku2 (P:=Eq) f7 rfl rfl rfl,ku2 f8 rfl rfl rfl,ku2 f9 rfl rfl rfl,ku3 f11 rfl rfl rfl rfl,ku2 f12 rfl rfl rfl,ku2 (P:=Eq) f13 rfl rfl rfl⟩⟩
        ·have d3:=getD_ft (haf _ rfl ⟨3,.data⟩ (by simp) rfl)
         have e176:b.eval (.tmp 176) = .pointer (some (al.add (j * 15))):=by rw [hbe,eval_in _ _ _ 3 (by decide) rfl (by rw [hz]; decide)]; exact (hT.get 3 rfl d3)
         have t176:=e176; simp only [Act.eval,Array.getD_eq_getD_getElem?] at t176
         refine wpOp_runs (v:=.pointer (some ⟨(al.add (j * 15)).block,(al.add (j * 15)).off + 14,none⟩)) rfl rfl (by simp [execOp,go_sem,t176]) ⟨_,_,rfl,rfl,⟨hBw,hT.on 4 rfl rfl,ku1 f6 rfl rfl,ku2 (P:=Eq) f7 rfl rfl rfl,ku2 f8 rfl rfl rfl,ku2 f9 rfl rfl rfl,ku3 f11 rfl rfl rfl rfl,ku2 f12 rfl rfl rfl,ku2 (P:=Eq) f13 rfl rfl rfl⟩⟩
        ·have d4:=getD_ft (haf _ rfl ⟨4,.data⟩ (by simp) rfl)
         have e177:b.eval (.tmp 177) = .pointer (some ⟨(al.add (j * 15)).block,(al.add (j * 15)).off + 14,none⟩):=by rw [hbe,eval_in _ _ _ 4 (by decide) rfl (by rw [hz]; decide)]; exact (hT.get 4 rfl d4)
         have t177:=e177; simp only [Act.eval,Array.getD_eq_getD_getElem?] at t177
         have y0:=HEN.out _ (HRR.out _ hBw)
         refine wpOp_runs (v:=.int .i64 u.nn) rfl rfl (by simp [execOp,go_sem,t177,y0]) ⟨_,_,rfl,rfl,⟨hBw,hT.on 5 rfl rfl,ku1 f6 rfl rfl,ku2 (P:=Eq) f7 rfl rfl rfl,ku2 f8 rfl rfl rfl,ku2 f9 rfl rfl rfl,ku3 f11 rfl rfl rfl rfl,ku2 f12 rfl rfl rfl,ku2 (P:=Eq) f13 rfl rfl rfl⟩⟩
        ·have d0:=getD_ft (haf _ rfl ⟨0,.data⟩ (by simp) rfl)
         have d5:=getD_ft (haf _ rfl ⟨5,.data⟩ (by simp) rfl)
         have e173:b.eval (.tmp 173) = .agg #[.slice A5 n5 c5,.slice A6 n6 c6,.int .i64 px.clk,.int .i64 px.ver]:=by rw [hbe,eval_in _ _ _ 0 (by decide) rfl (by rw [hz]; decide)]; exact (hT.get 0 rfl d0)
         have e178:b.eval (.tmp 178) = .int .i64 u.nn:=by rw [hbe,eval_in _ _ _ 5 (by decide) rfl (by rw [hz]; decide)]; exact (hT.get 5 rfl d5)
         refine wpOp_of rfl ?_
         refine step_call rfl 26 #[.tmp 173,.tmp 178] _ rfl #[.agg #[.slice A5 n5 c5,.slice A6 n6 c6,.int .i64 px.clk,.int .i64 px.ver],.int .i64 u.nn] (by simp [e173,e178]) Tryz.func26 rfl rfl ?_
         refine (rpadv_own A5 n5 c5 A6 n6 c6 px u.nn w' (HRL.out _ (HRR.out _ hBw)) (Pl.right_spec.1 HXR.out).v0 (Pl.right_spec.1 HXR.out).v1).mono ?_
         rintro e w'' ⟨B7,k7,q7,B8,k8,q8,B9,k9,q9,rfl,hown,hlh,hoh,hb⟩
         rw [HY.out] at hown
         rw [HG.out] at hlh hoh
         rw [HY.out,HF.out]
         have hgs:=hBw.size
         exact ⟨_,rfl,_,_,rfl,rfl,⟨hBw.trans (hb.mono hBw.size),hT.off rfl,fun _ => by rw [upd_same]; exact GotB.of hgs hown hlh hoh,fun h => absurd (getD_ft (hcl 7 _ rfl (un_set (i:=6) rfl h) ⟨6,.data⟩ (by simp) rfl)) (by rw [hun]; decide),fun h => absurd (getD_ft (hcl 7 _ rfl (getD_ft (hcl 8 _ rfl (un_set (i:=6) rfl h) ⟨7,.data⟩ (by simp) rfl)) ⟨6,.data⟩ (by simp) rfl)) (by rw [hun]; decide),fun h => absurd (getD_ft (hcl 7 _ rfl (getD_ft (hcl 9 _ rfl (un_set (i:=6) rfl h) ⟨7,.data⟩ (by simp) rfl)) ⟨6,.data⟩ (by simp) rfl)) (by rw [hun]; decide),fun h => by have h9:=f11 (un_set (i:=6) rfl h); rw [upd_same,upd_off (i:=6) (a:=11) x _ rfl]; exact VarB.got h9 hb hown hoh,fun h => absurd (getD_ft (hcl 7 _ rfl (getD_ft (hcl 8 _ rfl (getD_ft (hcl 12 _ rfl (un_set (i:=6) rfl h) ⟨8,.data⟩ (by simp) rfl)) ⟨7,.data⟩ (by simp) rfl)) ⟨6,.data⟩ (by simp) rfl)) (by rw [hun]; decide),fun h => absurd (getD_ft (hcl 7 _ rfl (getD_ft (hcl 9 _ rfl (getD_ft (hcl 13 _ rfl (un_set (i:=6) rfl h) ⟨9,.data⟩ (by simp) rfl)) ⟨7,.data⟩ (by simp) rfl)) ⟨6,.data⟩ (by simp) rfl)) (by rw [hun]; decide)⟩⟩
        ·have d6:=getD_ft (haf _ rfl ⟨6,.data⟩ (by simp) rfl)
         have e179:b.eval (.tmp 179) = x 6:=by rw [hbe,eval_in _ _ _ 6 (by decide) rfl (by rw [hz]; decide)]
         obtain ⟨v5,g5,e5,hv5,hg5⟩:=f6 d6
         rw [e5] at e179
         have t179:=e179; simp only [Act.eval,Array.getD_eq_getD_getElem?] at t179
         refine wpOp_runs (v:=.tuple #[v5,g5,.int .i64 f]) rfl rfl (by simp [execOp,go_sem,t179]) ⟨_,_,rfl,rfl,⟨hBw,hT.off rfl,ku1 f6 rfl rfl,fun _ => by rw [upd_same,upd_off x _ rfl,e5],fun h => absurd (getD_ft (hcl 8 _ rfl (un_set (i:=7) rfl h) ⟨7,.data⟩ (by simp) rfl)) (by rw [hun]; decide),fun h => absurd (getD_ft (hcl 9 _ rfl (un_set (i:=7) rfl h) ⟨7,.data⟩ (by simp) rfl)) (by rw [hun]; decide),ku3 f11 rfl rfl rfl rfl,fun h => absurd (getD_ft (hcl 8 _ rfl (getD_ft (hcl 12 _ rfl (un_set (i:=7) rfl h) ⟨8,.data⟩ (by simp) rfl)) ⟨7,.data⟩ (by simp) rfl)) (by rw [hun]; decide),fun h => absurd (getD_ft (hcl 9 _ rfl (getD_ft (hcl 13 _ rfl (un_set (i:=7) rfl h) ⟨9,.data⟩ (by simp) rfl)) ⟨7,.data⟩ (by simp) rfl)) (by rw [hun]; decide)⟩⟩
        ·have d7:=getD_ft (haf _ rfl ⟨7,.data⟩ (by simp) rfl)
         have d6:=(getD_ft (hcl 7 _ rfl d7 ⟨6,.data⟩ (by simp) rfl))
         have e172:b.eval (.tmp 172) = x 7:=by rw [hbe,eval_in _ _ _ 7 (by decide) rfl (by rw [hz]; decide)]
         obtain ⟨v5,g5,e5,hv5,hg5⟩:=f6 d6
         rw [f7 d7,e5] at e172
         have t172:=e172; simp only [Act.eval,Array.getD_eq_getD_getElem?] at t172
         refine wpOp_runs (v:=v5) rfl rfl (by simp [execOp,go_sem,t172]) ⟨_,_,rfl,rfl,⟨hBw,hT.off rfl,ku1 f6 rfl rfl,ku2 (P:=Eq) f7 rfl rfl rfl,fun _ => by rw [upd_same,upd_off x _ rfl,e5]; exact ⟨_,rfl⟩,ku2 f9 rfl rfl rfl,ku3 f11 rfl rfl rfl rfl,fun h => absurd (getD_ft (hcl 12 _ rfl (un_set (i:=8) rfl h) ⟨8,.data⟩ (by simp) rfl)) (by rw [hun]; decide),ku2 (P:=Eq) f13 rfl rfl rfl⟩⟩
        ·have d7:=getD_ft (haf _ rfl ⟨7,.data⟩ (by simp) rfl)
         have d6:=(getD_ft (hcl 7 _ rfl d7 ⟨6,.data⟩ (by simp) rfl))
         have e172:b.eval (.tmp 172) = x 7:=by rw [hbe,eval_in _ _ _ 7 (by decide) rfl (by rw [hz]; decide)]
         obtain ⟨v5,g5,e5,hv5,hg5⟩:=f6 d6
         rw [f7 d7,e5] at e172
         have t172:=e172; simp only [Act.eval,Array.getD_eq_getD_getElem?] at t172
         refine wpOp_runs (v:=g5) rfl rfl (by simp [execOp,go_sem,t172]) ⟨_,_,rfl,rfl,⟨hBw,hT.off rfl,ku1 f6 rfl rfl,ku2 (P:=Eq) f7 rfl rfl rfl,ku2 f8 rfl rfl rfl,fun _ => by rw [upd_same,upd_off x _ rfl,e5]; exact ⟨_,rfl⟩,ku3 f11 rfl rfl rfl rfl,ku2 f12 rfl rfl rfl,fun h => absurd (getD_ft (hcl 13 _ rfl (un_set (i:=9) rfl h) ⟨9,.data⟩ (by simp) rfl)) (by rw [hun]; decide)⟩⟩
        ·have d7:=getD_ft (haf _ rfl ⟨7,.data⟩ (by simp) rfl)
         have d6:=(getD_ft (hcl 7 _ rfl d7 ⟨6,.data⟩ (by simp) rfl))
         have e172:b.eval (.tmp 172) = x 7:=by rw [hbe,eval_in _ _ _ 7 (by decide) rfl (by rw [hz]; decide)]
         obtain ⟨v5,g5,e5,hv5,hg5⟩:=f6 d6
         rw [f7 d7,e5] at e172
         have t172:=e172; simp only [Act.eval,Array.getD_eq_getD_getElem?] at t172
         refine wpOp_runs (v:=.int .i64 f) rfl rfl (by simp [execOp,go_sem,t172]) ⟨_,_,rfl,rfl,⟨hBw,hT.on 6 rfl rfl,ku1 f6 rfl rfl,ku2 (P:=Eq) f7 rfl rfl rfl,ku2 f8 rfl rfl rfl,ku2 f9 rfl rfl rfl,ku3 f11 rfl rfl rfl rfl,ku2 f12 rfl rfl rfl,ku2 (P:=Eq) f13 rfl rfl rfl⟩⟩
        ·have hb:Below w'.heap.size w' (w'.alloc (.cells #[.slice none 0 0,.slice none 0 0,.int .i64 0,.int .i64 0] 25)):=by (repeat (first | exact Below.refl _ _ | refine Below.alloc ?_ (by first | omega | (simp; done) | (simp; omega)) _ | refine Below.setCell ?_ (by first | omega | (simp; done) | (simp; omega)) _ | refine Below.drew ?_))
         have hbs:=hBw.size
         refine wpOp_runs (v:=.pointer (some ⟨w'.heap.size,0,none⟩)) (w':=w'.alloc (.cells #[.slice none 0 0,.slice none 0 0,.int .i64 0,.int .i64 0] 25)) rfl rfl (by simp [execOp,go_sem]) ⟨_,_,rfl,rfl,⟨hBw.trans (hb.mono hBw.size),hT.off rfl,fun h => (ku1 (i:=11) f6 rfl rfl h).below hb,ku2 (P:=Eq) f7 rfl rfl rfl,ku2 f8 rfl rfl rfl,ku2 f9 rfl rfl rfl,fun _ => by rw [upd_same,upd_off x _ rfl,getD_set_ne true (show 11 ≠ 6 by decide)]; exact VarB.new hbs f6,fun h => absurd (getD_ft (hcl 12 _ rfl (un_set (i:=11) rfl h) ⟨11,.data⟩ (by simp) rfl)) (by rw [hun]; decide),ku2 (P:=Eq) f13 rfl rfl rfl⟩⟩
        ·have d11:=getD_ft (haf _ rfl ⟨11,.data⟩ (by simp) rfl)
         have d8:=getD_ft (haf _ rfl ⟨8,.data⟩ (by simp) rfl)
         have d7:=(getD_ft (hcl 8 _ rfl d8 ⟨7,.data⟩ (by simp) rfl))
         have d6:=(getD_ft (hcl 7 _ rfl d7 ⟨6,.data⟩ (by simp) rfl))
         obtain ⟨b9,hm9,hx9,⟨cz,hz9,hk9⟩,hn9'⟩:=f11 d11
         obtain ⟨v5,g5,e5,hv5,hg5⟩:=f6 d6
         have hn9:=hn9' d6 _ _ e5
         obtain ⟨g8,e8⟩:=f8 d8
         have hv7:=PlV.seven3 e5 e8 hv5
         obtain ⟨cs7,hz7,ho7,hx7⟩:=hv7.agg
         have e29:b.eval (.tmp 29) = .pointer (some ⟨b9,0,none⟩):=by rw [hbe,eval_in _ _ _ 11 (by decide) rfl (by rw [hz]; decide)]; exact hx9
         have e180:b.eval (.tmp 180) = .agg cs7:=by rw [hbe,eval_in _ _ _ 8 (by decide) rfl (by rw [hz]; decide)]; exact hx7
         refine wpOp_of rfl ?_
         rw [if_pos (by simp [Region.wanted])]
         refine wp_store_mid 25 (.tmp 29) (.tmp 180) rfl b9 0 cs7 e29 e180 ?_ (by rw [hz7]; kernel_rfl) ho7 ?_
         ·intro j hj
          rw [Nat.zero_add]
          refine ⟨?_,hk9.free j⟩
          rw [hk9.cell j]
          have:j < cz.size:=by omega
          simp [this]
         ·refine ⟨_,_,rfl,rfl,⟨set_below b9 hm9 _ _ hBw,hT.off rfl,fun h => by rw [upd_off x _ rfl]; exact ⟨v5,g5,e5,hv5.far (grown_sets _ _ _) hn9.1,hg5.far (grown_sets _ _ _) hn9.2⟩,ku2 (P:=Eq) f7 rfl rfl rfl,ku2 f8 rfl rfl rfl,ku2 f9 rfl rfl rfl,fun h => by rw [upd_off x _ rfl,upd_off x _ rfl]; exact ⟨b9,hm9,hx9,⟨_,hz7,set_whole hk9 (by rw [hz7,hz9])⟩,fun _ => hn9' d6⟩,fun _ => by rw [upd_off x _ rfl,upd_off x _ rfl]; exact ⟨b9,cs7,hz7,hm9,hx9,hx7,set_whole hk9 (by rw [hz7,hz9])⟩,ku2 (P:=Eq) f13 rfl rfl rfl⟩⟩
        ·have d9:=getD_ft (haf _ rfl ⟨9,.data⟩ (by simp) rfl)
         have e181:b.eval (.tmp 181) = x 9:=by rw [hbe,eval_in _ _ _ 9 (by decide) rfl (by rw [hz]; decide)]
         have t181:=e181; simp only [Act.eval,Array.getD_eq_getD_getElem?] at t181
         refine wpOp_runs (v:=x 9) rfl rfl (by simp [execOp,go_sem,t181]) ⟨_,_,rfl,rfl,⟨hBw,hT.off rfl,ku1 f6 rfl rfl,ku2 (P:=Eq) f7 rfl rfl rfl,ku2 f8 rfl rfl rfl,ku2 f9 rfl rfl rfl,ku3 f11 rfl rfl rfl rfl,ku2 f12 rfl rfl rfl,fun _ => by rw [upd_same,upd_off x _ rfl]⟩⟩
        ·have d10:=getD_ft (haf _ rfl ⟨10,.data⟩ (by simp) rfl)
         have e182:b.eval (.tmp 182) = .int .i64 f:=by rw [hbe,eval_in _ _ _ 10 (by decide) rfl (by rw [hz]; decide)]; exact (hT.get 6 rfl d10)
         have t182:=e182; simp only [Act.eval,Array.getD_eq_getD_getElem?] at t182
         refine wpOp_runs (v:=.int .i64 f) rfl rfl (by simp [execOp,go_sem,t182]) ⟨_,_,rfl,rfl,⟨hBw,hT.on 7 rfl rfl,ku1 f6 rfl rfl,ku2 (P:=Eq) f7 rfl rfl rfl,ku2 f8 rfl rfl rfl,ku2 f9 rfl rfl rfl,ku3 f11 rfl rfl rfl rfl,ku2 f12 rfl rfl rfl,ku2 (P:=Eq) f13 rfl rfl rfl⟩⟩
       intro V x wq hall hF
       obtain ⟨hBw,hT,f6,f7,f8,f9,f11,f12,f13⟩:=hF
       obtain ⟨bM,cs,hz4,hbM,hx11,hx8,hM⟩:=f12 (hall 12 (by decide))
       obtain ⟨v5,g5,e5,hv5,hg5⟩:=f6 (hall 6 (by decide))
       obtain ⟨g8,e8⟩:=f8 (hall 8 (by decide))
       obtain ⟨v8,e9⟩:=f9 (hall 9 (by decide))
       have hv7:=PlV.seven3 e5 e8 hv5
       have hg7:=GoV.seven3 e5 e9 hg5
       have hx13:=f13 (hall 13 (by decide))
       have hx14:=hT.get 7 rfl (hall 14 (by decide))
       obtain ⟨B7,k7,q7,B8,k8,q8,e7,hoZ⟩:=hv7
       obtain ⟨B9,k9,q9,e10,hm9,hoh⟩:=hg7
       rw [e7] at hx8
       injection hx8 with hx8
       subst hx8
       rw [e10] at hx13
       clear hT f6 f7 f8 f9 f11 f12 f13 hall e5 hv5 hg5 e7 e8 e9 e10 hz4
       subst ha0
       simp only [List.map_cons,List.map_nil,putAll,hx11,hx13,hx14]
       clear hx11 hx13 hx14
       go_simp
       have hgz2:=hBw.size
       replace hW:=hW.below hBw hW.lt
       replace hY:=hY.below hBw hY.lt
       replace hZ:=hZ.below hBw hZ.lt
       replace hN:=hN.below hBw hN.lt
       replace hoW:=hoW.below hBw
       replace hoY:=hoY.below hBw
       replace hog:=own_below hog hBw
       replace hR:=hR.trans (hBw.mono hR.size)
       clear HRR hBw
       have m0:wq.cell? ⟨bN,0,none⟩ = some (.slice A7 n7 c7):=hN.cell 0
       have m1:wq.cell? ⟨bN,1,none⟩ = some (.slice A8 n8 c8):=hN.cell 1
       have m2:wq.cell? ⟨bN,2,none⟩ = some (.int .i64 y.clk):=hN.cell 2
       have m3:wq.cell? ⟨bN,3,none⟩ = some (.int .i64 y.ver):=hN.cell 3
       have lt_m:=hN.lt
       have q0:wq.cell? ⟨(bW + 1),0,none⟩ = some (.slice none 0 0):=hY.cell 0
       have q1:wq.cell? ⟨(bW + 1),1,none⟩ = some (.slice none 0 0):=hY.cell 1
       have q2:wq.cell? ⟨(bW + 1),2,none⟩ = some (.int .i64 0):=hY.cell 2
       have q3:wq.cell? ⟨(bW + 1),3,none⟩ = some (.int .i64 0):=hY.cell 3
       have k_0:=hY.free 0
       have k_1:=hY.free 1
       have k_2:=hY.free 2
       have k_3:=hY.free 3
       have lt_q:=hY.lt
       go_upto_region 35 with fail
       clear m0 m1 m2 m3 lt_m q0 q1 q2 q3 k_0 k_1 k_2 k_3 lt_q
       replace hW:=pl_far4 hW (show bW ≠ (bW + 1) by omega) (.slice A7 n7 c7) (.slice A8 n8 c8) (.int .i64 y.clk) (.int .i64 y.ver)
       replace hZ:=pl_far4 hZ (show (bW + 1 + 1) ≠ (bW + 1) by omega) (.slice A7 n7 c7) (.slice A8 n8 c8) (.int .i64 y.clk) (.int .i64 y.ver)
       replace hM:=pl_far4 hM (show bM ≠ (bW + 1) by omega) (.slice A7 n7 c7) (.slice A8 n8 c8) (.int .i64 y.clk) (.int .i64 y.ver)
       replace hY:=pl_set4 hY (.slice A7 n7 c7) (.slice A8 n8 c8) (.int .i64 y.clk) (.int .i64 y.ver)
       replace hoW:=hoW.other (pl_grown4 wq (bW + 1) (.slice A7 n7 c7) (.slice A8 n8 c8) (.int .i64 y.clk) (.int .i64 y.ver)) (fun g hg => by have:=hw1 g hg; omega) (fun g hg => by have:=hw2 g hg; omega)
       replace hoY:=hoY.other (pl_grown4 wq (bW + 1) (.slice A7 n7 c7) (.slice A8 n8 c8) (.int .i64 y.clk) (.int .i64 y.ver)) (fun g hg => by have:=(hoY.o1.lt g hg).1; omega) (fun g hg => by have:=(hoY.o.lt g hg).1; omega)
       replace hoZ:=hoZ.other (pl_grown4 wq (bW + 1) (.slice A7 n7 c7) (.slice A8 n8 c8) (.int .i64 y.clk) (.int .i64 y.ver)) (fun g hg => by have:=(hoZ.o1.lt g hg).1; omega) (fun g hg => by have:=(hoZ.o.lt g hg).1; omega)
       replace hog:=own_other hog (pl_grown4 wq (bW + 1) (.slice A7 n7 c7) (.slice A8 n8 c8) (.int .i64 y.clk) (.int .i64 y.ver)) (fun g hg => by have:=(hog.lt g hg).1; omega)
       replace hoh:=own_other hoh (pl_grown4 wq (bW + 1) (.slice A7 n7 c7) (.slice A8 n8 c8) (.int .i64 y.clk) (.int .i64 y.ver)) (fun g hg => by have:=(hoh.lt g hg).1; omega)
       replace hR:=pl_below4 hR (bW + 1) (by omega) (.slice A7 n7 c7) (.slice A8 n8 c8) (.int .i64 y.clk) (.int .i64 y.ver)
       generalize ((((wq.setCell ⟨(bW + 1),0,none⟩ (.slice A7 n7 c7)).setCell ⟨(bW + 1),1,none⟩ (.slice A8 n8 c8)).setCell ⟨(bW + 1),2,none⟩ (.int .i64 y.clk)).setCell ⟨(bW + 1),3,none⟩ (.int .i64 y.ver)) = wt at *
       clear hN
       have m0:wt.cell? ⟨bM,0,none⟩ = some (.slice B7 k7 q7):=hM.cell 0
       have m1:wt.cell? ⟨bM,1,none⟩ = some (.slice B8 k8 q8):=hM.cell 1
       have m2:wt.cell? ⟨bM,2,none⟩ = some (.int .i64 y.clk):=hM.cell 2
       have m3:wt.cell? ⟨bM,3,none⟩ = some (.int .i64 y.ver):=hM.cell 3
       have lt_m:=hM.lt
       have q0:wt.cell? ⟨(bW + 1 + 1),0,none⟩ = some (.slice none 0 0):=hZ.cell 0
       have q1:wt.cell? ⟨(bW + 1 + 1),1,none⟩ = some (.slice none 0 0):=hZ.cell 1
       have q2:wt.cell? ⟨(bW + 1 + 1),2,none⟩ = some (.int .i64 0):=hZ.cell 2
       have q3:wt.cell? ⟨(bW + 1 + 1),3,none⟩ = some (.int .i64 0):=hZ.cell 3
       have k_0:=hZ.free 0
       have k_1:=hZ.free 1
       have k_2:=hZ.free 2
       have k_3:=hZ.free 3
       have lt_q:=hZ.lt
       go_upto_region 36 with fail
       clear m0 m1 m2 m3 lt_m q0 q1 q2 q3 k_0 k_1 k_2 k_3 lt_q
       replace hW:=pl_far4 hW (show bW ≠ (bW + 1 + 1) by omega) (.slice B7 k7 q7) (.slice B8 k8 q8) (.int .i64 y.clk) (.int .i64 y.ver)
       replace hY:=pl_far4 hY (show (bW + 1) ≠ (bW + 1 + 1) by omega) (.slice B7 k7 q7) (.slice B8 k8 q8) (.int .i64 y.clk) (.int .i64 y.ver)
       replace hZ:=pl_set4 hZ (.slice B7 k7 q7) (.slice B8 k8 q8) (.int .i64 y.clk) (.int .i64 y.ver)
       replace hoW:=hoW.other (pl_grown4 wt (bW + 1 + 1) (.slice B7 k7 q7) (.slice B8 k8 q8) (.int .i64 y.clk) (.int .i64 y.ver)) (fun g hg => by have:=hw1 g hg; omega) (fun g hg => by have:=hw2 g hg; omega)
       replace hoY:=hoY.other (pl_grown4 wt (bW + 1 + 1) (.slice B7 k7 q7) (.slice B8 k8 q8) (.int .i64 y.clk) (.int .i64 y.ver)) (fun g hg => by have:=(hoY.o1.lt g hg).1; omega) (fun g hg => by have:=(hoY.o.lt g hg).1; omega)
       replace hoZ:=hoZ.other (pl_grown4 wt (bW + 1 + 1) (.slice B7 k7 q7) (.slice B8 k8 q8) (.int .i64 y.clk) (.int .i64 y.ver)) (fun g hg => by have:=(hoZ.o1.lt g hg).1; omega) (fun g hg => by have:=(hoZ.o.lt g hg).1; omega)
       replace hog:=own_other hog (pl_grown4 wt (bW + 1 + 1) (.slice B7 k7 q7) (.slice B8 k8 q8) (.int .i64 y.clk) (.int .i64 y.ver)) (fun g hg => by have:=(hog.lt g hg).1; omega)
       replace hoh:=own_other hoh (pl_grown4 wt (bW + 1 + 1) (.slice B7 k7 q7) (.slice B8 k8 q8) (.int .i64 y.clk) (.int .i64 y.ver)) (fun g hg => by have:=(hoh.lt g hg).1; omega)
       replace hR:=pl_below4 hR (bW + 1 + 1) (by omega) (.slice B7 k7 q7) (.slice B8 k8 q8) (.int .i64 y.clk) (.int .i64 y.ver)
       generalize ((((wt.setCell ⟨(bW + 1 + 1),0,none⟩ (.slice B7 k7 q7)).setCell ⟨(bW + 1 + 1),1,none⟩ (.slice B8 k8 q8)).setCell ⟨(bW + 1 + 1),2,none⟩ (.int .i64 y.clk)).setCell ⟨(bW + 1 + 1),3,none⟩ (.int .i64 y.ver)) = wv at *
       clear hM
       have hn9:n9 ≤ 100000:=by have h5:=HLEN.out; have h6:=(HRL.out _ hR).l1; have h7:=(HRL.out _ hR).b1; omega
       go_wp2_with fail
       have hk9:k9 = n9:=by omega
       refine (ints_any A9 B9 n9 c9 k9 q9 gs gs wv hl9 hm9 (by omega) (by omega) (Sl.of_own hog) (Sl.of_own hoh)).mono ?_
       rw [decide_eq_true rfl]
       rintro e wy ⟨rfl,hb⟩
       replace hW:=hW.below hb hW.lt
       replace hY:=hY.below hb hY.lt
       replace hZ:=hZ.below hb hZ.lt
       replace hoW:=hoW.below hb
       replace hoY:=hoY.below hb
       replace hoZ:=hoZ.below hb
       replace hR:=hR.trans (hb.mono hR.size)
       clear hb hog hoh
       go_wp2_with fail
       go_meet
       exact ⟨y,f,A7,n7,c7,A8,n8,c8,B7,k7,q7,B8,k8,q8,rfl,rfl,rfl,HYR,hR,hW,hY,hZ,hoW.at_,hoY.down HRS.out,hoZ.at_⟩
     case rest =>
      revert wc
      intro wt hcut
      clear hW hY hZ hoW hR e0
      obtain ⟨y,f,A7,n7,c7,A8,n8,c8,B7,k7,q7,B8,k8,q8,rfl,rfl,rfl,HYR,hRt,hW,hY,hZ,hoW,hoY,hoZ⟩:=hcut
      have hX:=HRX.out _ hRt
      have hxl:=HRL.out _ hRt
      have hB:=HRB.out _ hRt
      have x0:wt.cell? ⟨wX.heap.size,0,none⟩ = some (.slice A5 n5 c5):=hX.cell 0
      have x1:wt.cell? ⟨wX.heap.size,1,none⟩ = some (.slice A6 n6 c6):=hX.cell 1
      have x2:wt.cell? ⟨wX.heap.size,2,none⟩ = some (.int .i64 px.clk):=hX.cell 2
      have x3:wt.cell? ⟨wX.heap.size,3,none⟩ = some (.int .i64 px.ver):=hX.cell 3
      have y0:wt.cell? ⟨(bW + 1),0,none⟩ = some (.slice A7 n7 c7):=hY.cell 0
      have y1:wt.cell? ⟨(bW + 1),1,none⟩ = some (.slice A8 n8 c8):=hY.cell 1
      have y2:wt.cell? ⟨(bW + 1),2,none⟩ = some (.int .i64 y.clk):=hY.cell 2
      have y3:wt.cell? ⟨(bW + 1),3,none⟩ = some (.int .i64 y.ver):=hY.cell 3
      have z0:wt.cell? ⟨(bW + 1 + 1),0,none⟩ = some (.slice B7 k7 q7):=hZ.cell 0
      have z1:wt.cell? ⟨(bW + 1 + 1),1,none⟩ = some (.slice B8 k8 q8):=hZ.cell 1
      have z2:wt.cell? ⟨(bW + 1 + 1),2,none⟩ = some (.int .i64 y.clk):=hZ.cell 2
      have z3:wt.cell? ⟨(bW + 1 + 1),3,none⟩ = some (.int .i64 y.ver):=hZ.cell 3
      have v0:wt.cell? ⟨bW,0,none⟩ = some (.slice Aw n5 cw):=hW.cell 0
      have v1:wt.cell? ⟨bW,1,none⟩ = some (.slice Av n6 cv):=hW.cell 1
      have v2:wt.cell? ⟨bW,2,none⟩ = some (.int .i64 px.clk):=hW.cell 2
      have v3:wt.cell? ⟨bW,3,none⟩ = some (.int .i64 px.ver):=hW.cell 3
      have lt_x:=hX.lt
      have lt_y:=hY.lt
      have lt_z:=hZ.lt
      have lt_v:=hW.lt
      have HQX:=Lib.hid (fun d os => hxl.up (below_regrown wt d os))
      have HQY:=Lib.hid (fun d os => hoY.at_.up (below_regrown wt d os))
      have HQZ:=Lib.hid (fun d os => hoZ.up (below_regrown wt d os))
      have HQW:=Lib.hid (fun d os => hoW.up (below_regrown wt d os))
      have hXK:=Lib.hid hX
      have hYK:=Lib.hid hY
      have hoK:=Lib.hid hoY
      have hBK:=Lib.hid hB
      have HLB:=Lib.hid (show wX.heap.size < wr.heap.size ∧ wr.heap.size ≤ bW ∧ wr.heap.size ≤ wt.heap.size from ⟨HBP.out,hsw,hRt.size⟩)
      clear hX hY hZ hW hoW hoY hoZ hxl hB hRt HRX HRL HRB HEA HEN HE0 HBP HSZ hw1 hw2 hsw
      go_upto_region 39 with fail
      have q_x0:=fun d os => cell_regrown x0 d os
      have q_x1:=fun d os => cell_regrown x1 d os
      have q_x2:=fun d os => cell_regrown x2 d os
      have q_x3:=fun d os => cell_regrown x3 d os
      have q_y0:=fun d os => cell_regrown y0 d os
      have q_y1:=fun d os => cell_regrown y1 d os
      have q_y2:=fun d os => cell_regrown y2 d os
      have q_y3:=fun d os => cell_regrown y3 d os
      have q_z0:=fun d os => cell_regrown z0 d os
      have q_z1:=fun d os => cell_regrown z1 d os
      have q_z2:=fun d os => cell_regrown z2 d os
      have q_z3:=fun d os => cell_regrown z3 d os
      have q_v0:=fun d os => cell_regrown v0 d os
      have q_v1:=fun d os => cell_regrown v1 d os
      have q_v2:=fun d os => cell_regrown v2 d os
      have q_v3:=fun d os => cell_regrown v3 d os
      try simp only [List.append]
      first | refine wp_region_text_below ?_ | refine wp_region_quiet_below (by kernel_rfl) (by kernel_rfl) ?_
      repeat (go_big_quiet_step (((first | (go_at_call 15; with_reducible exact Calls.regrown_of (rpsame_any A7 n7 c7 A8 n8 c8 y B7 k7 q7 B8 k8 q8 y _ (HQY.out _ _) (HQZ.out _ _) true (samePB_refl y))) | (go_at_call 15; with_reducible exact Calls.regrown_of (rpsame_any A5 n5 c5 A6 n6 c6 px Aw n5 cw Av n6 cv px _ (HQX.out _ _) (HQW.out _ _) true (samePB_refl px)))))))
      refine wpQuiet_nil ?_
      intro _ hqw
      obtain ⟨pq,hqw⟩:=hqw
      subst hqw
      have hbq:=below_regrown wt pq.d pq.os
      have hX:=hXK.out.below hbq hXK.out.lt
      have hY:=hYK.out.below hbq hYK.out.lt
      have hoY:=hoK.out.below hbq
      have hB:=hBK.out.trans (hbq.mono hBK.out.size)
      have hsz:=hbq.size
      obtain ⟨hl1,hl2,hl3⟩:=HLB.out
      clear q_x0 q_x1 q_x2 q_x3 q_y0 q_y1 q_y2 q_y3 q_z0 q_z1 q_z2 q_z3 q_v0 q_v1 q_v2 q_v3 x0 x1 x2 x3 y0 y1 y2 y3 z0 z1 z2 z3 v0 v1 v2 v3 lt_x lt_y lt_z lt_v HQX HQY HQZ HQW hXK hYK hoK hBK hbq HLB
      generalize grow (redrawn wt pq.d) pq.os = wu at *
      generalize wr.heap.size = bR at *
      have y0:wu.cell? ⟨(bW + 1),0,none⟩ = some (.slice A7 n7 c7):=hY.cell 0
      have y1:wu.cell? ⟨(bW + 1),1,none⟩ = some (.slice A8 n8 c8):=hY.cell 1
      have y2:wu.cell? ⟨(bW + 1),2,none⟩ = some (.int .i64 y.clk):=hY.cell 2
      have y3:wu.cell? ⟨(bW + 1),3,none⟩ = some (.int .i64 y.ver):=hY.cell 3
      have lt_y:=hY.lt
      go_wp2_with fail
      clear y0 y1 y2 y3 lt_y
      refine (rpcopy_any A7 n7 c7 A8 n8 c8 y wu hoY.at_).mono ?_
      rintro e wv ⟨A9,c9,Aa,ca,rfl,hoC,hb⟩
      have hbR:bR ≤ wu.heap.size:=Nat.le_trans hl3 hsz
      have HYB:Hid ((∀ g,(Value.slice A7 n7 c7).ownBlock = some g → bR ≤ g ∧ g < wu.heap.size) ∧ (∀ g,(Value.slice A8 n8 c8).ownBlock = some g → bR ≤ g ∧ g < wu.heap.size)):=⟨fun g hg => hoY.o1.lt g hg,fun g hg => hoY.o.lt g hg⟩
      replace hX:=hX.below hb hX.lt
      replace hY:=hY.below hb hY.lt
      replace hoY:=hoY.below hb
      replace hB:=hB.trans (hb.mono hB.size)
      have HYL:Hid (y.cs.length = n7 ∧ y.rs.length = n8):=⟨hoY.l1,hoY.l⟩
      have hbn7:n7 ≤ 100000:=hoY.b1
      have hbn8:n8 ≤ 100000:=hoY.b
      generalize wu.heap.size = bC at *
      clear hb hsz hl3
      have x0:wv.cell? ⟨wX.heap.size,0,none⟩ = some (.slice A5 n5 c5):=hX.cell 0
      have x1:wv.cell? ⟨wX.heap.size,1,none⟩ = some (.slice A6 n6 c6):=hX.cell 1
      have x2:wv.cell? ⟨wX.heap.size,2,none⟩ = some (.int .i64 px.clk):=hX.cell 2
      have x3:wv.cell? ⟨wX.heap.size,3,none⟩ = some (.int .i64 px.ver):=hX.cell 3
      have k_0:=hX.free 0
      have k_1:=hX.free 1
      have k_2:=hX.free 2
      have k_3:=hX.free 3
      have lt_x:=hX.lt
      go_upto_region 42 with fail
      clear x0 x1 x2 x3 k_0 k_1 k_2 k_3 lt_x
      replace hX:=pl_set4 hX (.slice A9 n7 c9) (.slice Aa n8 ca) (.int .i64 y.clk) (.int .i64 y.ver)
      replace hY:=pl_far4 hY (show bW + 1 ≠ wX.heap.size by omega) (.slice A9 n7 c9) (.slice Aa n8 ca) (.int .i64 y.clk) (.int .i64 y.ver)
      replace hoY:=hoY.other (pl_grown4 wv wX.heap.size (.slice A9 n7 c9) (.slice Aa n8 ca) (.int .i64 y.clk) (.int .i64 y.ver)) (fun g hg => by have:=(hoY.o1.lt g hg).1; omega) (fun g hg => by have:=(hoY.o.lt g hg).1; omega)
      replace hoC:=hoC.other (pl_grown4 wv wX.heap.size (.slice A9 n7 c9) (.slice Aa n8 ca) (.int .i64 y.clk) (.int .i64 y.ver)) (fun g hg => by have:=(hoC.o1.lt g hg).1; omega) (fun g hg => by have:=(hoC.o.lt g hg).1; omega)
      replace hB:=pl_below4 hB wX.heap.size (Nat.le_refl _) (.slice A9 n7 c9) (.slice Aa n8 ca) (.int .i64 y.clk) (.int .i64 y.ver)
      generalize ((((wv.setCell ⟨wX.heap.size,0,none⟩ (.slice A9 n7 c9)).setCell ⟨wX.heap.size,1,none⟩ (.slice Aa n8 ca)).setCell ⟨wX.heap.size,2,none⟩ (.int .i64 y.clk)).setCell ⟨wX.heap.size,3,none⟩ (.int .i64 y.ver)) = wz at *
      have HPZ:=Lib.hid hoY.o1
      have HRZ:=Lib.hid hoY.o
      have HCZ:=Lib.hid hoC
      have HXZ:=Lib.hid hX
      have HYZ:=Lib.hid hY
      have HBZ:=Lib.hid hB
      have HBL:=Lib.hid (show wX.heap.size < bR ∧ bR ≤ bC ∧ bR ≤ bW from ⟨hl1,hbR,hl2⟩)
      clear hX hY hoY hoC hB hl1 hl2 hbR
      go_wp2
      go_loopw [32] (fun kv wx => ∃ (q:Nat) (xs:List Value),kv = .int .i64 q ∧ q ≤ n7 ∧ Hid (xs.length = n7 * 6) ∧ Hid (wx.ownsRow bR 33 6 (.slice A7 n7 c7) n7 xs) ∧ Hid (wx.ownsRow bR 35 5 (.slice A8 n8 c8) n8 (flatRg y.rs)) ∧ Hid (PlOwn wx bC A9 n7 c9 Aa n8 ca y) ∧ Hid (Blok wx wX.heap.size 25 #[.slice A9 n7 c9,.slice Aa n8 ca,.int .i64 y.clk,.int .i64 y.ver]) ∧ Hid (Blok wx (bW + 1) 25 #[.slice A7 n7 c7,.slice A8 n8 c8,.int .i64 y.clk,.int .i64 y.ver]) ∧ Below wX.heap.size wX wx) (fun kv _ => n7 - (intOf kv).toNat)
      case atStart => exact ⟨0,flatCo y.cs,rfl,by omega,by rw [Hid,flatCo_length,HYL.out.1],HPZ,HRZ,HCZ,HXZ,HYZ,HBZ.out⟩
      case round =>
       obtain ⟨q,xs,rfl,hq,HXL,HPX,HRR,HCX,HXX,HYX,hbx⟩:=hrel
       have y0:wr.cell? ⟨bW + 1,0,none⟩ = some (.slice A7 n7 c7):=HYX.out.cell 0
       have lt_y:=HYX.out.lt
       by_cases hqn:q < n7
       ·obtain ⟨gb,cur,hae,hgc⟩:∃ gb cur,A7 = some ⟨gb,0,none⟩ ∧ Blok wr gb 33 cur:=by
         rcases HPX.out.2 with ⟨he,_⟩ | ⟨gb,cap,cur,he,_,hh,_⟩
         ·injection he with h1 h2 h3
          omega
         ·injection he with h1 h2 h3
          exact ⟨gb,cur,h1,hh⟩
        subst hae
        have hlx:(q * 6) < xs.length:=by rw [HXL.out]; omega
        have hcell:=(HPX.out.cellAt (q * 6) (by omega)).trans (List.getElem?_eq_getElem hlx)
        obtain ⟨ov,hov⟩:∃ ov,xs[q * 6]'hlx = ov:=⟨_,rfl⟩
        rw [hov] at hcell
        have hfz:wr.frozen? ⟨gb,q * 6,none⟩ = false:=hgc.free (q * 6)
        have hqI:(q:Int) < (n7:Int):=by omega
        obtain ⟨r0,g0⟩:=HPX.out.stored (q * 6) (.int .i64 (-7))
        obtain ⟨hg1,hg2⟩:=HYB.out.1 gb rfl
        have hltx:=HBL.out
        have hne:=Blok.ne_own HPX.out HYX.out (by decide)
        have R0:=Lib.hid r0
        have R1:Hid ((wr.setCell ⟨gb,q * 6,none⟩ (.int .i64 (-7))).ownsRow bR 35 5 (.slice A8 n8 c8) n8 (flatRg y.rs)):=own_other HRR.out g0 (fun g hg e => by
         rcases own_ne HRR.out HPX.out (by decide) with h | h
         ·rw [h] at hg; cases hg
         ·exact h (by rw [hg,e]; rfl))
        have R2:=Lib.hid (HCX.out.far g0 (by omega))
        have R3:=Lib.hid (HXX.out.grown g0 (by simp only [ne_eq,Option.some.injEq]; omega))
        have R4:=Lib.hid (HYX.out.grown g0 (fun e => hne e.symm))
        have R5:Below wX.heap.size wX (wr.setCell ⟨gb,q * 6,none⟩ (.int .i64 (-7))):=Below.setCell hbx (by show wX.heap.size ≤ gb; omega) _
        have R6:=Lib.hid R5
        have hXN:Hid ((xs.set (q * 6) (.int .i64 (-7))).length = n7 * 6):=by show (xs.set _ _).length = _; rw [List.length_set]; exact HXL.out
        clear r0 g0 hgc hov R5 hne hbx hg1 hg2 hltx
        go_wp2_with fail
        go_roundw
        case rel => exact ⟨q + 1,_,by go_num,by omega,hXN,R0,R1,R2,R3,R4,R6.out⟩
        case measure => simp [intOf]; omega
       ·have HBZ2:=Lib.hid hbx
        clear hbx
        have HPZ:=HRR
        have HCZ:=HCX
        have HXZ:=HXX
        have HYZ:=HYX
        have HBZ:=HBZ2
        clear HPX HRR HCX HXX HYX HBZ2 HXL
        go_upto_region 46 with fail
        clear y0 lt_y
        generalize wr = wR at *
        go_wp2
        go_loopw [33] (fun kv wx => ∃ (q:Nat) (xs:List Value),kv = .int .i64 q ∧ q ≤ n8 ∧ Hid (xs.length = n8 * 5) ∧ Hid (wx.ownsRow bR 35 5 (.slice A8 n8 c8) n8 xs) ∧ Hid (PlOwn wx bC A9 n7 c9 Aa n8 ca y) ∧ Hid (Blok wx wX.heap.size 25 #[.slice A9 n7 c9,.slice Aa n8 ca,.int .i64 y.clk,.int .i64 y.ver]) ∧ Hid (Blok wx (bW + 1) 25 #[.slice A7 n7 c7,.slice A8 n8 c8,.int .i64 y.clk,.int .i64 y.ver]) ∧ Below wX.heap.size wX wx) (fun kv _ => n8 - (intOf kv).toNat)
        case atStart => exact ⟨0,flatRg y.rs,rfl,by omega,by rw [Hid,flatRg_length,HYL.out.2],HPZ,HCZ,HXZ,HYZ,HBZ.out⟩
        case round =>
         obtain ⟨q,xs,rfl,hq,HXL,HPX,HCX,HXX,HYX,hbx⟩:=hrel
         have y1:wr.cell? ⟨bW + 1,1,none⟩ = some (.slice A8 n8 c8):=HYX.out.cell 1
         have lt_y:=HYX.out.lt
         by_cases hqn:q < n8
         ·obtain ⟨gb,cur,hae,hgc⟩:∃ gb cur,A8 = some ⟨gb,0,none⟩ ∧ Blok wr gb 35 cur:=by
           rcases HPX.out.2 with ⟨he,_⟩ | ⟨gb,cap,cur,he,_,hh,_⟩
           ·injection he with h1 h2 h3
            omega
           ·injection he with h1 h2 h3
            exact ⟨gb,cur,h1,hh⟩
          subst hae
          have hlx:(q * 5 + 4) < xs.length:=by rw [HXL.out]; omega
          have hcell:=(HPX.out.cellAt (q * 5 + 4) (by omega)).trans (List.getElem?_eq_getElem hlx)
          obtain ⟨ov,hov⟩:∃ ov,xs[q * 5 + 4]'hlx = ov:=⟨_,rfl⟩
          rw [hov] at hcell
          have hfz:wr.frozen? ⟨gb,q * 5 + 4,none⟩ = false:=hgc.free (q * 5 + 4)
          have hqI:(q:Int) < (n8:Int):=by omega
          obtain ⟨r0,g0⟩:=HPX.out.stored (q * 5 + 4) (.int .i64 (-7))
          obtain ⟨hg1,hg2⟩:=HYB.out.2 gb rfl
          have hltx:=HBL.out
          have hne:=Blok.ne_own HPX.out HYX.out (by decide)
          have R0:=Lib.hid r0
          have R2:=Lib.hid (HCX.out.far g0 (by omega))
          have R3:=Lib.hid (HXX.out.grown g0 (by simp only [ne_eq,Option.some.injEq]; omega))
          have R4:=Lib.hid (HYX.out.grown g0 (fun e => hne e.symm))
          have R5:Below wX.heap.size wX (wr.setCell ⟨gb,q * 5 + 4,none⟩ (.int .i64 (-7))):=Below.setCell hbx (by show wX.heap.size ≤ gb; omega) _
          have R6:=Lib.hid R5
          have hXN:Hid ((xs.set (q * 5 + 4) (.int .i64 (-7))).length = n8 * 5):=by show (xs.set _ _).length = _; rw [List.length_set]; exact HXL.out
          clear r0 g0 hgc hov R5 hne hbx hg1 hg2 hltx
          go_wp2_with fail
          go_roundw
          case rel => exact ⟨q + 1,_,by go_num,by omega,hXN,R0,R2,R3,R4,R6.out⟩
          case measure => simp [intOf]; omega
         ·have HBZ2:=Lib.hid hbx
          clear hbx
          go_wp2_with fail
          go_roundw
          case rel => exact ⟨j + 1,A9,n7,c9,Aa,n8,ca,y,by omega,by go_num,HYR,HXX.out,HCX.out.at_,HBZ2.out⟩
          case measure => simp [intOf]; omega
    ·obtain rfl:j = i:=by omega
     go_wp2_with fail
     go_ret
     exact ⟨rfl,HBX.out.trans (hB0.mono HBX.out.size)⟩
theorem planTells_walk (A1:Option Addr) (n1 c1:Nat) (ns1:List Int) (A:Option Addr) (n c:Nat) (ns:List Int) (clk ver:Int) (Al:Option Addr) (nl cl:Nat) (ns2:List Int) (B1:Option Addr) (m1 k1:Nat) (ns3:List Int) (B:Option Addr) (m k:Nat) (ns4:List Int) (clk2 ver2:Int) (hnl1:ns1.length = n1 * 6) (_:∀ m ∈ ns1,(Lit.int .i64 m).wf = true) (hnl:ns.length = n * 5) (_:∀ m ∈ ns,(Lit.int .i64 m).wf = true) (_:(Lit.int .i64 clk).wf = true) (_:(Lit.int .i64 ver).wf = true) (hnl2:ns2.length = nl * 15) (hw2:∀ m ∈ ns2,(Lit.int .i64 m).wf = true) (hnl3:ns3.length = m1 * 6) (_:∀ m ∈ ns3,(Lit.int .i64 m).wf = true) (hnl4:ns4.length = m * 5) (_:∀ m ∈ ns4,(Lit.int .i64 m).wf = true) (_:(Lit.int .i64 clk2).wf = true) (_:(Lit.int .i64 ver2).wf = true) (w:World)
  (h1:Sl w w.heap.size 6 A1 n1 c1 (ns1.map (Value.int .i64))) (h:Sl w w.heap.size 5 A n c (ns.map (Value.int .i64))) (hl:Sl w w.heap.size 15 Al nl cl (ns2.map (Value.int .i64))) (g1:Sl w w.heap.size 6 B1 m1 k1 (ns3.map (Value.int .i64))) (g:Sl w w.heap.size 5 B m k (ns4.map (Value.int .i64))) :
  Calls Tryz.prog 3 #[.agg #[.slice A1 n1 c1,.slice A n c,.int .i64 clk,.int .i64 ver],.slice Al nl cl,.agg #[.slice B1 m1 k1,.slice B m k,.int .i64 clk2,.int .i64 ver2]] w fun e w' => e = .returned (.bool true) ∧ Below w.heap.size w w':=by
 obtain ⟨cs,hd1,hf1⟩:=rowsCo_of n1 ns1 hnl1
 obtain ⟨rs,hd,hf⟩:=rowsRg_of n ns hnl
 obtain ⟨l,hdl,hf2⟩:=rowsAp_of nl ns2 hnl2
 obtain ⟨cs',he1,hf3⟩:=rowsCo_of m1 ns3 hnl3
 obtain ⟨rs',he,hf4⟩:=rowsRg_of m ns4 hnl4
 rw [hf1] at h1
 rw [hf] at h
 rw [hf2] at hl
 rw [hf3] at g1
 rw [hf4] at g
 exact planTells_w A1 n1 c1 A n c ⟨cs,rs,clk,ver⟩ Al nl cl l B1 m1 k1 B m k ⟨cs',rs',clk2,ver2⟩ (fun j hj => wf_flatAp hw2 hf2 (by rw [hdl]; exact hj)) hdl hd1 hd he1 he w h1 h hl g1 g
theorem planTells_own:ownKnob Tryz.prog.godebug = none:=by kernel_rfl
theorem planTells_laidOut:laidOutB Tryz.prog = true:=by kernel_rfl

set_option maxHeartbeats 1000000 in
set_option maxRecDepth 100000 in
theorem planTells_lifted (os:Os) (started:os.Started) (H:Type) (enc:TypeId × Value → H) :
  ReturnsInHanded {} Tryz.checked os 3 .any (Rows.planTellsSpec.pre6 enc Tryz.prog Tryz.f3 Rows.planTellsRow.domain false) (Rows.planTellsSpec.post enc Tryz.prog Tryz.f3 false true false false):=by
 refine returnsInHanded_of_change (C:=Tryz.checked) planTells_own started (by kernel_rfl) Tryz.func3
  (ChangeSpec.witness6 (enc:=enc) (C:=Tryz.checked) false ⟨#[],#[.agg #[.slice none 0 0,.slice none 0 0,.int .i64 0,.int .i64 0],.slice none 0 0,.agg #[.slice none 0 0,.slice none 0 0,.int .i64 0,.int .i64 0]],[]⟩ 8 (by kernel_rfl) (by kernel_rfl) (by kernel_rfl) (by kernel_rfl)) ?_
 intro W base args ds gs before hval0 hW hcnd _
 have hval:∀ (j:Nat) t v,Tryz.f3.params[j]? = some t → args[j]? = some v → Value.okWide Tryz.prog W .any base t v:=hval0
 have hW':=hW
 obtain ⟨p,q,hA0,hV,rfl,hfz,hnd⟩:=hW
 have hA:DataW.TrodAll enc Tryz.prog W 0 (fun _ => true) true Tryz.f3.params.toList args.toList ds p:=hA0
 rw [Tryz.params3] at hA hval
 obtain ⟨v0,vs0,d0,ds0,p0,q0,hargs,rfl,rfl,h0,r0⟩:=trodAll_cons hA
 obtain ⟨v1,vs1,d1,ds1,p1,q1,rfl,rfl,rfl,h1,r1⟩:=trodAll_cons r0
 obtain ⟨v2,vs2,d2,ds2,p2,q2,rfl,rfl,rfl,h2,r2⟩:=trodAll_cons r1
 obtain ⟨rfl,rfl,rfl⟩:=trodAll_nil r2
 obtain rfl:args = #[v0,v1,v2]:=by cases args; simp_all
 obtain ⟨rfl,rfl⟩:=trodVars_none hV
 obtain ⟨A0,n0,c0,ns0,B0,m0,k0,ms0,x0,y0,rfl,hl0,nl0,w0,hm0,ml0,wm0,wx0,wy0⟩:=open_plan 4 (e0:=33) (e1:=35) (K0:=6) (K1:=5) Tryz.underlying25 (by kernel_rfl) (by kernel_rfl) (by kernel_rfl) (by kernel_rfl) (by kernel_rfl) (by kernel_rfl) (by kernel_rfl) (by kernel_rfl) (by omega) (by kernel_rfl) (by omega) (hval 0 25 v0 rfl rfl) h0
 obtain ⟨A1,n1,c1,ns1,rfl,hl1,nl1,w1⟩:=open_rowsS 4 (K:=15) Tryz.underlying26 (by kernel_rfl) (by kernel_rfl) (by omega) (hval 1 26 v1 rfl rfl) h1
 obtain ⟨A2,n2,c2,ns2,B2,m2,k2,ms2,x2,y2,rfl,hl2,nl2,w2,hm2,ml2,wm2,wx2,wy2⟩:=open_plan 4 (e0:=33) (e1:=35) (K0:=6) (K1:=5) Tryz.underlying25 (by kernel_rfl) (by kernel_rfl) (by kernel_rfl) (by kernel_rfl) (by kernel_rfl) (by kernel_rfl) (by kernel_rfl) (by kernel_rfl) (by omega) (by kernel_rfl) (by omega) (hval 2 25 v2 rfl rfl) h2
 clear hA0 hval0
 refine (planTells_walk A0 n0 c0 ns0 B0 m0 k0 ms0 x0 y0 A1 n1 c1 ns1 A2 n2 c2 ns2 B2 m2 k2 ms2 x2 y2 nl0 w0 ml0 wm0 wx0 wy0 nl1 w1 nl2 w2 ml2 wm2 wx2 wy2 W hl0 hm0 hl1 hl2 hm2).mono fun e W' ⟨he,bel⟩ => ?_
 subst he
 exact ⟨_,rfl,law_post planTells_laidOut (by kernel_rfl) rfl Tryz.underlying4 rfl rfl hW' bel⟩

theorem planTells_proved:Rows.PlanTellsSaid:=
 OpenClaim.holds_of_wide 3 Tryz.f3 rfl rfl rfl rfl rfl rfl rfl ⟨rfl,rfl,rfl,rfl,rfl⟩ rfl rfl rfl rfl rfl (by kernel_rfl) Tryz.func3 (by kernel_rfl)
  (of_decide_eq_true (by kernel_rfl)) (by unfold Func.isWrapper; first | (rw [if_pos (by decide +kernel)]; kernel_rfl) | (rw [if_neg (by decide +kernel)]; exact ⟨rfl,rfl⟩))
  (fun os started H enc _ => planTells_lifted os started H enc)
#print axioms planTells_proved
end Go.Proofs.YtolaabllhibkdaaGreat
