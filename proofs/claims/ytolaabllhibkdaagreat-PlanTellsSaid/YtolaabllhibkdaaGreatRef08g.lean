/- The document's own plans: All. -/
import Derived.Test.YtolaabllhibkdaaGreatRef08e
import Derived.Test.YtolaabllhibkdaaGreatGT
namespace Go.Proofs.YtolaabllhibkdaaGreat
open Go.ChangeShapes Go.WideShapes Go.ChangeAt Go.RowKit Go.Sort
set_option linter.unusedSimpArgs false
set_option linter.unusedVariables false
/-- The value is a plan's struct, its tables in memory of the call's own. -/
def PlV (w:World) (base:Nat) (p:Pl) (v:Value):Prop:=∃ A n c A' n' c',v = .agg #[.slice A n c,.slice A' n' c',.int .i64 p.clk,.int .i64 p.ver] ∧ PlOwn w base A n c A' n' c' p
/-- .. and this block is none of theirs. -/
def PlN (b:Nat) (v:Value):Prop:=∀ A n c A' n' c' y z,v = .agg #[.slice A n c,.slice A' n' c',y,z] → (∀ g,(Value.slice A n c).ownBlock = some g → g ≠ b) ∧ (∀ g,(Value.slice A' n' c').ownBlock = some g → g ≠ b)
theorem PlV.below {w w':World} {base:Nat} {p:Pl} {v:Value} (h:PlV w base p v) (hb:Below w.heap.size w w'):PlV w' base p v:=by
 obtain ⟨A,n,c,A',n',c',e,ho⟩:=h
 exact ⟨A,n,c,A',n',c',e,ho.below hb⟩
theorem PlV.far {w w':World} {base b:Nat} {p:Pl} {v:Value} (h:PlV w base p v) (hg:w.grownBy w' (some b)) (hn:PlN b v):PlV w' base p v:=by
 obtain ⟨A,n,c,A',n',c',e,ho⟩:=h
 obtain ⟨h1,h2⟩:=hn _ _ _ _ _ _ _ _ e
 exact ⟨A,n,c,A',n',c',e,ho.l1,ho.l,ho.b1,ho.b,own_other ho.o1 hg h1,own_other ho.o hg h2⟩
theorem PlV.agg {w:World} {base:Nat} {p:Pl} {v:Value} (h:PlV w base p v):∃ cs:Array Value,cs.size = 4 ∧ cs.all (·.oneCell') = true ∧ v = .agg cs:=by
 obtain ⟨A,n,c,A',n',c',e,_⟩:=h
 exact ⟨_,rfl,by simp [Value.oneCell'],e⟩
theorem PlV.seven {w:World} {base:Nat} {p:Pl} {u v y:Value} {q:Int} (e5:u = .tuple #[v,.int .i64 q]) (e7:u = .tuple #[y,.int .i64 q]) (h:PlV w base p v):PlV w base p y:=by
 rw [e5] at e7
 injection e7 with e7
 injection e7 with e7
 injection e7 with e7 _
 subst e7
 exact h
theorem PlN.of_below {w:World} {base:Nat} {p:Pl} {v:Value} (h:PlV w base p v):PlN w.heap.size v:=by
 obtain ⟨A,n,c,A',n',c',e,ho⟩:=h
 intro B m k B' m' k' y z e'
 rw [e] at e'
 injection e' with e'
 injection e' with e'
 injection e' with e1 e'
 injection e' with e2 _
 rw [← e1,← e2]
 exact ⟨fun g hg => Nat.ne_of_lt (ho.o1.lt g hg).2,fun g hg => Nat.ne_of_lt (ho.o.lt g hg).2⟩
theorem PlN.of_own {w:World} {base b:Nat} {p:Pl} {A:Option Addr} {n c:Nat} {A':Option Addr} {n' c':Nat} {v y z:Value} {q:Int} (hb:b < base) (ho:PlOwn w base A n c A' n' c' p) (e:Value.tuple #[.agg #[.slice A n c,.slice A' n' c',y,z],.int .i64 q] = .tuple #[v,.int .i64 q]):PlN b v:=by
 injection e with e
 injection e with e
 injection e with e _
 intro B m k B' m' k' y' z' e'
 rw [← e] at e'
 injection e' with e'
 injection e' with e'
 injection e' with e1 e'
 injection e' with e2 _
 rw [← e1,← e2]
 exact ⟨fun g hg => by have:=(ho.o1.lt g hg).1; omega,fun g hg => by have:=(ho.o.lt g hg).1; omega⟩
def NB (b:Nat) (v:Value):Prop:=∀ g,v.ownBlock = some g → g ≠ b
set_option maxHeartbeats 16000000 in
set_option maxRecDepth 100000 in
theorem rpall_any (A1:Option Addr) (n1 c1:Nat) (A:Option Addr) (n c:Nat) (p:Pl) (Ad:Option Addr) (nd cd:Nat) (ds:List Dr) (w:World) (hd:ds.length = nd) (hnd:nd ≤ 1000000) (h:PlAt w A1 n1 c1 A n c p) (hl:Sl w w.heap.size 13 Ad nd cd (flatDr ds)) (hr:p.right = true) :
  Calls Tryz.prog 18 #[.agg #[.slice A1 n1 c1,.slice A n c,.int .i64 p.clk,.int .i64 p.ver],.slice Ad nd cd] w (AllRet p ds w):=by
 have hB:Below w.heap.size w ((w.alloc (.cells #[.slice A1 n1 c1,.slice A n c,.int .i64 p.clk,.int .i64 p.ver] 25)).alloc (.cells #[.slice none 0 0,.slice none 0 0,.int .i64 0,.int .i64 0] 25)):=by (repeat (first | exact Below.refl _ _ | refine Below.alloc ?_ (by first | omega | (simp; done) | (simp; omega)) _ | refine Below.setCell ?_ (by first | omega | (simp; done) | (simp; omega)) _ | refine Below.drew ?_))
 have hP:=(Blok.new w 25 #[.slice A1 n1 c1,.slice A n c,.int .i64 p.clk,.int .i64 p.ver]).alloc (.cells #[.slice none 0 0,.slice none 0 0,.int .i64 0,.int .i64 0] 25)
 have hR:=Blok.new (w.alloc (.cells #[.slice A1 n1 c1,.slice A n c,.int .i64 p.clk,.int .i64 p.ver] 25)) 25 #[.slice none 0 0,.slice none 0 0,.int .i64 0,.int .i64 0]
 simp only [World.size_alloc] at hR
 have H0:=Lib.hid h
 have HL0:=Lib.hid hl
 have HD:=Lib.hid hd
 have HRT:=Lib.hid hr
 replace h:=h.up hB
 have hs:=hB.size
 clear hd hl hr
 go_enter Tryz.func18,Tryz.ntmps18
 go_upto_region 1 with fail
 generalize (w.alloc (.cells #[.slice A1 n1 c1,.slice A n c,.int .i64 p.clk,.int .i64 p.ver] 25)).alloc (.cells #[.slice none 0 0,.slice none 0 0,.int .i64 0,.int .i64 0] 25) = w0 at *
 obtain ⟨p0,p1,p2,p3,lt_p⟩:=blok4 (show Blok _ _ _ #[.slice A1 n1 c1,.slice A n c,.int .i64 p.clk,.int .i64 p.ver] from hP)
 go_wp2_with fail
 clear p0 p1 p2 p3 lt_p
 refine (rpcopy_any A1 n1 c1 A n c p w0 h).mono ?_
 rintro e w1 ⟨A2,c2,A3,c3,rfl,hown,hb⟩
 have hR0:=hR.lt
 replace hown:=hown.down (b':=w.heap.size + 2) (by omega)
 have hn1:∀ g,(Value.slice A2 n1 c2).ownBlock = some g → g ≠ w1.heap.size:=fun g hg => Nat.ne_of_lt (hown.o1.lt g hg).2
 have hn2:∀ g,(Value.slice A3 n c3).ownBlock = some g → g ≠ w1.heap.size:=fun g hg => Nat.ne_of_lt (hown.o.lt g hg).2
 replace hP:=hP.below hb hP.lt
 replace hR:=hR.below hb hR.lt
 replace hB:=hB.trans (hb.mono hs)
 replace hs:=hB.size
 clear hb
 clear h
 go_upto_region 2 with fail
 have hN:=Blok.new w1 25 #[.slice A2 n1 c2,.slice A3 n c3,.int .i64 p.clk,.int .i64 p.ver]
 have hb:Below w1.heap.size w1 (w1.alloc (.cells #[.slice A2 n1 c2,.slice A3 n c3,.int .i64 p.clk,.int .i64 p.ver] 25)):=by (repeat (first | exact Below.refl _ _ | refine Below.alloc ?_ (by first | omega | (simp; done) | (simp; omega)) _ | refine Below.setCell ?_ (by first | omega | (simp; done) | (simp; omega)) _ | refine Below.drew ?_))
 have hnl:w.heap.size + 1 < w1.heap.size:=hR.lt
 replace hown:=hown.below hb
 replace hP:=hP.below hb hP.lt
 replace hR:=hR.below hb hR.lt
 replace hB:=hB.trans (hb.mono hs)
 replace hs:=hB.size
 clear hb
 generalize w1.alloc (.cells #[.slice A2 n1 c2,.slice A3 n c3,.int .i64 p.clk,.int .i64 p.ver] 25) = w2 at *
 generalize w1.heap.size = bN at *
 have HP:=Lib.hid hP
 have HR:=Lib.hid hR
 have HN:=Lib.hid hN
 have HB:=Lib.hid hB
 have HOW:=Lib.hid hown
 clear hP hR hN hB hs hown hR0
 go_wp2_with fail
 go_loopw [8] (fun iv wr => ∃ (k:Nat) (A2:Option Addr) (n2 c2:Nat) (A3:Option Addr) (n3 c3:Nat),iv = .int .i64 k ∧ k ≤ nd ∧ Hid (∀ j,j < k → stepQ (runP p (ds.take j)) (gDr ds j) = 0) ∧ Hid (PlOwn wr (w.heap.size + 2) A2 n2 c2 A3 n3 c3 (runP p (ds.take k))) ∧ Hid (NB bN (.slice A2 n2 c2) ∧ NB bN (.slice A3 n3 c3)) ∧ Below w.heap.size w wr ∧ Hid (Blok wr w.heap.size 25 #[.slice A1 n1 c1,.slice A n c,.int .i64 p.clk,.int .i64 p.ver]) ∧ Hid (Blok wr (w.heap.size + 1) 25 #[.slice none 0 0,.slice none 0 0,.int .i64 0,.int .i64 0]) ∧ Hid (Blok wr bN 25 #[.slice A2 n2 c2,.slice A3 n3 c3,.int .i64 (runP p (ds.take k)).clk,.int .i64 (runP p (ds.take k)).ver])) (fun iv _ => nd - (intOf iv).toNat)
 case atStart => exact ⟨0,A2,n1,c2,A3,n,c3,rfl,by omega,(fun j hj => by omega),HOW.out,⟨hn1,hn2⟩,HB.out,HP.out,HR.out,HN.out⟩
 case round =>
  clear HP HR HN HB HOW hn1 hn2
  obtain ⟨k,A2,n2,c2,A3,n3,c3,rfl,hk,HQ,HPA,HNB,hB,HP,HR,HN⟩:=hrel
  have hs:=hB.size
  have hP:=HP.out
  have hR:=HR.out
  have hN:=HN.out
  clear HP HR HN
  by_cases hkn:k < nd
  ·have hl:=HL0.out.up hB
   obtain ⟨ad,rfl,_⟩:=hl.lst.atDr HD.out hkn
   have HLR:=Lib.hid hl
   obtain ⟨d,hdd⟩:∃ d,gDr ds k = d:=⟨_,rfl⟩
   have HDD:=Lib.hid hdd
   have hnx:=runP_next (p:=p) (ds:=ds) (k:=k) (by rw [HD.out]; exact hkn)
   rw [hdd] at hnx
   have HNX:=Lib.hid hnx
   have hrr:=runP_right HRT.out (ds.take k)
   obtain ⟨pk,hpk⟩:∃ x,runP p (ds.take k) = x:=⟨_,rfl⟩
   have hpa:=HPA.out
   rw [hpk] at hN hpa hrr
   clear HPA
   have HPA:=Lib.hid hpa
   have HPK:=Lib.hid hpk
   obtain ⟨q,hq⟩:∃ x,stepQ pk d = x:=⟨_,rfl⟩
   obtain ⟨pp,hpp⟩:∃ x,stepP pk d = x:=⟨_,rfl⟩
   have HQQ:=Lib.hid hq
   have HPP:=Lib.hid hpp
   clear hdd hnx hpk hl hpa hq hpp
   have hknI:(k:Int) < (nd:Int):=by omega
   have hk0I:(0:Int) ≤ (k:Int):=by omega
   go_upto_region 5 with fail
   refine gen_frame ?_
   intro a0 ha0
   try simp only [List.append]
   refine wp_region_frames rfl (by kernel_rfl) (by kernel_rfl) (fun V x w' => Below wr.heap.size wr w' ∧ (V.getD 0 true = true → x 0 = .agg #[.slice A2 n2 c2,.slice A3 n3 c3,.int .i64 pk.clk,.int .i64 pk.ver]) ∧ (V.getD 1 true = true → x 1 = .slice (some ad) nd cd) ∧ (V.getD 2 true = true → x 2 = .int .i64 k) ∧ (V.getD 3 true = true → x 3 = .pointer (some (ad.add (k * 13)))) ∧ (V.getD 4 true = true → x 4 = .agg #[.int .i64 d.op,.int .i64 d.kd,.int .i64 d.id,.int .i64 d.fr,.int .i64 d.tn,.int .i64 d.st,.int .i64 d.en,.int .i64 d.rt,.int .i64 d.rf,.int .i64 d.rn,.int .i64 d.rs,.int .i64 d.re,.int .i64 d.ro]) ∧ (V.getD 5 true = true → ∃ v,x 5 = .tuple #[v,.int .i64 q] ∧ PlV w' wr.heap.size pp v) ∧ (V.getD 6 true = true → x 6 = x 5) ∧ (V.getD 7 true = true → x 5 = .tuple #[x 7,.int .i64 q]) ∧ (V.getD 8 true = true → x 8 = .int .i64 q) ∧ (V.getD 9 true = true → ∃ b,wr.heap.size ≤ b ∧ x 9 = .pointer (some ⟨b,0,none⟩) ∧ (∃ cs,cs.size = 4 ∧ Blok w' b 25 cs) ∧ (V.getD 5 true = true → ∀ v,x 5 = .tuple #[v,.int .i64 q] → PlN b v)) ∧ (V.getD 10 true = true → ∃ b cs,cs.size = 4 ∧ wr.heap.size ≤ b ∧ x 9 = .pointer (some ⟨b,0,none⟩) ∧ x 7 = .agg cs ∧ Blok w' b 25 cs ∧ PlN b (x 7)) ∧ (V.getD 11 true = true → x 11 = .int .i64 q)) ?_ ?_ ?_
   ·intro x
    refine ⟨(Below.refl _ _).drew,?_,?_,?_,?_,?_,?_,?_,?_,?_,?_,?_,?_⟩ <;> exact fun h => by simp at h
   ·intro V x b w' hbq hsz hF i hi hun haf hcl
    obtain ⟨hBw,f0,f1,f2,f3,f4,f5,f6,f7,f8,f9,f10,f11⟩:=hF
    have hbe:b = putAll a0 [some 20,some 21,some 22,some 23,some 24,some 25,some 19,some 26,some 27,some 9,none,some 10] x 0:=hbq
    have hz:a0.tmps.size = 38:=by rw [ha0]; rfl
    have t7:b.tmps[7]?.getD undef = .pointer (some ⟨bN,0,none⟩):=by have e:b.eval (.tmp 7) = .pointer (some ⟨bN,0,none⟩):=(by rw [hbe,eval_out _ _ _ (by decide),ha0]; rfl); simpa [Act.eval] using e
    have t1:b.tmps[1]?.getD undef = .slice (some ad) nd cd:=by have e:b.eval (.tmp 1) = .slice (some ad) nd cd:=(by rw [hbe,eval_out _ _ _ (by decide),ha0]; rfl); simpa [Act.eval] using e
    have t8:b.tmps[8]?.getD undef = .int .i64 k:=by have e:b.eval (.tmp 8) = .int .i64 k:=(by rw [hbe,eval_out _ _ _ (by decide),ha0]; rfl); simpa [Act.eval] using e
    clear hbq
    have hi':i < 12:=hi
    clear hi
    obtain rfl | rfl | rfl | rfl | rfl | rfl | rfl | rfl | rfl | rfl | rfl | rfl:i = 0 ∨ i = 1 ∨ i = 2 ∨ i = 3 ∨ i = 4 ∨ i = 5 ∨ i = 6 ∨ i = 7 ∨ i = 8 ∨ i = 9 ∨ i = 10 ∨ i = 11:=by omega
    ·have hNw:=hN.below hBw hN.lt
     obtain ⟨n_0,n_1,n_2,n_3,lt_n_⟩:=blok4 (show Blok _ _ _ #[.slice A2 n2 c2,.slice A3 n3 c3,.int .i64 pk.clk,.int .i64 pk.ver] from hNw)
     obtain ⟨nf_0,nf_1,nf_2,nf_3⟩:=free4 hNw
     refine wpOp_runs (v:=.agg #[.slice A2 n2 c2,.slice A3 n3 c3,.int .i64 pk.clk,.int .i64 pk.ver]) rfl rfl (by simp [execOp,go_sem,t7,n_0,n_1,n_2,n_3,nf_0,nf_1,nf_2,nf_3,lt_n_]) ⟨_,_,rfl,rfl,⟨hBw,fun _ => upd_same _ _ _,fun h => by rw [upd_ne x _ (show 1 ≠ 0 by decide)]; exact f1 (by rw [← getD_set_ne true (show 0 ≠ 1 by decide)]; exact h),fun h => by rw [upd_ne x _ (show 2 ≠ 0 by decide)]; exact f2 (by rw [← getD_set_ne true (show 0 ≠ 2 by decide)]; exact h),fun h => by rw [upd_ne x _ (show 3 ≠ 0 by decide)]; exact f3 (by rw [← getD_set_ne true (show 0 ≠ 3 by decide)]; exact h),fun h => by rw [upd_ne x _ (show 4 ≠ 0 by decide)]; exact f4 (by rw [← getD_set_ne true (show 0 ≠ 4 by decide)]; exact h),fun h => by obtain ⟨v0,e0,hv0⟩:=f5 (by rw [← getD_set_ne true (show 0 ≠ 5 by decide)]; exact h); exact ⟨v0,by rw [upd_ne x _ (show 5 ≠ 0 by decide)]; exact e0,hv0⟩,fun h => by rw [upd_ne x _ (show 6 ≠ 0 by decide),upd_ne x _ (show 5 ≠ 0 by decide)]; exact f6 (by rw [← getD_set_ne true (show 0 ≠ 6 by decide)]; exact h),fun h => by rw [upd_ne x _ (show 5 ≠ 0 by decide),upd_ne x _ (show 7 ≠ 0 by decide)]; exact f7 (by rw [← getD_set_ne true (show 0 ≠ 7 by decide)]; exact h),fun h => by rw [upd_ne x _ (show 8 ≠ 0 by decide)]; exact f8 (by rw [← getD_set_ne true (show 0 ≠ 8 by decide)]; exact h),fun h => by obtain ⟨b0,hl0,hx0,⟨cs0,hz0,hk0⟩,hn0⟩:=f9 (by rw [← getD_set_ne true (show 0 ≠ 9 by decide)]; exact h); exact ⟨b0,hl0,by rw [upd_ne x _ (show 9 ≠ 0 by decide)]; exact hx0,⟨cs0,hz0,hk0⟩,fun h5 v hv => hn0 (by rw [← getD_set_ne true (show 0 ≠ 5 by decide)]; exact h5) v (by rw [upd_ne x _ (show 5 ≠ 0 by decide)] at hv; exact hv)⟩,fun h => by obtain ⟨b0,cs0,hz0,hl0,hx0,h70,hk0,hn0⟩:=f10 (by rw [← getD_set_ne true (show 0 ≠ 10 by decide)]; exact h); exact ⟨b0,cs0,hz0,hl0,by rw [upd_ne x _ (show 9 ≠ 0 by decide)]; exact hx0,by rw [upd_ne x _ (show 7 ≠ 0 by decide)]; exact h70,hk0,by rw [upd_ne x _ (show 7 ≠ 0 by decide)]; exact hn0⟩,fun h => by rw [upd_ne x _ (show 11 ≠ 0 by decide)]; exact f11 (by rw [← getD_set_ne true (show 0 ≠ 11 by decide)]; exact h)⟩⟩
    ·refine wpOp_runs (v:=.slice (some ad) nd cd) rfl rfl (by simp [execOp,go_sem,t1]) ⟨_,_,rfl,rfl,⟨hBw,fun h => by rw [upd_ne x _ (show 0 ≠ 1 by decide)]; exact f0 (by rw [← getD_set_ne true (show 1 ≠ 0 by decide)]; exact h),fun _ => upd_same _ _ _,fun h => by rw [upd_ne x _ (show 2 ≠ 1 by decide)]; exact f2 (by rw [← getD_set_ne true (show 1 ≠ 2 by decide)]; exact h),fun h => by rw [upd_ne x _ (show 3 ≠ 1 by decide)]; exact f3 (by rw [← getD_set_ne true (show 1 ≠ 3 by decide)]; exact h),fun h => by rw [upd_ne x _ (show 4 ≠ 1 by decide)]; exact f4 (by rw [← getD_set_ne true (show 1 ≠ 4 by decide)]; exact h),fun h => by obtain ⟨v0,e0,hv0⟩:=f5 (by rw [← getD_set_ne true (show 1 ≠ 5 by decide)]; exact h); exact ⟨v0,by rw [upd_ne x _ (show 5 ≠ 1 by decide)]; exact e0,hv0⟩,fun h => by rw [upd_ne x _ (show 6 ≠ 1 by decide),upd_ne x _ (show 5 ≠ 1 by decide)]; exact f6 (by rw [← getD_set_ne true (show 1 ≠ 6 by decide)]; exact h),fun h => by rw [upd_ne x _ (show 5 ≠ 1 by decide),upd_ne x _ (show 7 ≠ 1 by decide)]; exact f7 (by rw [← getD_set_ne true (show 1 ≠ 7 by decide)]; exact h),fun h => by rw [upd_ne x _ (show 8 ≠ 1 by decide)]; exact f8 (by rw [← getD_set_ne true (show 1 ≠ 8 by decide)]; exact h),fun h => by obtain ⟨b0,hl0,hx0,⟨cs0,hz0,hk0⟩,hn0⟩:=f9 (by rw [← getD_set_ne true (show 1 ≠ 9 by decide)]; exact h); exact ⟨b0,hl0,by rw [upd_ne x _ (show 9 ≠ 1 by decide)]; exact hx0,⟨cs0,hz0,hk0⟩,fun h5 v hv => hn0 (by rw [← getD_set_ne true (show 1 ≠ 5 by decide)]; exact h5) v (by rw [upd_ne x _ (show 5 ≠ 1 by decide)] at hv; exact hv)⟩,fun h => by obtain ⟨b0,cs0,hz0,hl0,hx0,h70,hk0,hn0⟩:=f10 (by rw [← getD_set_ne true (show 1 ≠ 10 by decide)]; exact h); exact ⟨b0,cs0,hz0,hl0,by rw [upd_ne x _ (show 9 ≠ 1 by decide)]; exact hx0,by rw [upd_ne x _ (show 7 ≠ 1 by decide)]; exact h70,hk0,by rw [upd_ne x _ (show 7 ≠ 1 by decide)]; exact hn0⟩,fun h => by rw [upd_ne x _ (show 11 ≠ 1 by decide)]; exact f11 (by rw [← getD_set_ne true (show 1 ≠ 11 by decide)]; exact h)⟩⟩
    ·refine wpOp_runs (v:=.int .i64 k) rfl rfl (by simp [execOp,go_sem,t8]) ⟨_,_,rfl,rfl,⟨hBw,fun h => by rw [upd_ne x _ (show 0 ≠ 2 by decide)]; exact f0 (by rw [← getD_set_ne true (show 2 ≠ 0 by decide)]; exact h),fun h => by rw [upd_ne x _ (show 1 ≠ 2 by decide)]; exact f1 (by rw [← getD_set_ne true (show 2 ≠ 1 by decide)]; exact h),fun _ => upd_same _ _ _,fun h => by rw [upd_ne x _ (show 3 ≠ 2 by decide)]; exact f3 (by rw [← getD_set_ne true (show 2 ≠ 3 by decide)]; exact h),fun h => by rw [upd_ne x _ (show 4 ≠ 2 by decide)]; exact f4 (by rw [← getD_set_ne true (show 2 ≠ 4 by decide)]; exact h),fun h => by obtain ⟨v0,e0,hv0⟩:=f5 (by rw [← getD_set_ne true (show 2 ≠ 5 by decide)]; exact h); exact ⟨v0,by rw [upd_ne x _ (show 5 ≠ 2 by decide)]; exact e0,hv0⟩,fun h => by rw [upd_ne x _ (show 6 ≠ 2 by decide),upd_ne x _ (show 5 ≠ 2 by decide)]; exact f6 (by rw [← getD_set_ne true (show 2 ≠ 6 by decide)]; exact h),fun h => by rw [upd_ne x _ (show 5 ≠ 2 by decide),upd_ne x _ (show 7 ≠ 2 by decide)]; exact f7 (by rw [← getD_set_ne true (show 2 ≠ 7 by decide)]; exact h),fun h => by rw [upd_ne x _ (show 8 ≠ 2 by decide)]; exact f8 (by rw [← getD_set_ne true (show 2 ≠ 8 by decide)]; exact h),fun h => by obtain ⟨b0,hl0,hx0,⟨cs0,hz0,hk0⟩,hn0⟩:=f9 (by rw [← getD_set_ne true (show 2 ≠ 9 by decide)]; exact h); exact ⟨b0,hl0,by rw [upd_ne x _ (show 9 ≠ 2 by decide)]; exact hx0,⟨cs0,hz0,hk0⟩,fun h5 v hv => hn0 (by rw [← getD_set_ne true (show 2 ≠ 5 by decide)]; exact h5) v (by rw [upd_ne x _ (show 5 ≠ 2 by decide)] at hv; exact hv)⟩,fun h => by obtain ⟨b0,cs0,hz0,hl0,hx0,h70,hk0,hn0⟩:=f10 (by rw [← getD_set_ne true (show 2 ≠ 10 by decide)]; exact h); exact ⟨b0,cs0,hz0,hl0,by rw [upd_ne x _ (show 9 ≠ 2 by decide)]; exact hx0,by rw [upd_ne x _ (show 7 ≠ 2 by decide)]; exact h70,hk0,by rw [upd_ne x _ (show 7 ≠ 2 by decide)]; exact hn0⟩,fun h => by rw [upd_ne x _ (show 11 ≠ 2 by decide)]; exact f11 (by rw [← getD_set_ne true (show 2 ≠ 11 by decide)]; exact h)⟩⟩
    ·have d1:=getD_ft (haf _ rfl ⟨1,.data⟩ (by simp) rfl)
     have d2:=getD_ft (haf _ rfl ⟨2,.data⟩ (by simp) rfl)
     have e21:b.eval (.tmp 21) = .slice (some ad) nd cd:=by rw [hbe,eval_in _ _ _ 1 (by decide) rfl (by rw [hz]; decide)]; exact f1 d1
     have e22:b.eval (.tmp 22) = .int .i64 k:=by rw [hbe,eval_in _ _ _ 2 (by decide) rfl (by rw [hz]; decide)]; exact f2 d2
     have t21:=e21; simp only [Act.eval,Array.getD_eq_getD_getElem?] at t21
     have t22:=e22; simp only [Act.eval,Array.getD_eq_getD_getElem?] at t22
     refine wpOp_runs (v:=.pointer (some (ad.add (k * 13)))) rfl rfl (by simp [execOp,go_sem,t21,t22,hknI,hk0I]) ⟨_,_,rfl,rfl,⟨hBw,fun h => by rw [upd_ne x _ (show 0 ≠ 3 by decide)]; exact f0 (by rw [← getD_set_ne true (show 3 ≠ 0 by decide)]; exact h),fun h => by rw [upd_ne x _ (show 1 ≠ 3 by decide)]; exact f1 (by rw [← getD_set_ne true (show 3 ≠ 1 by decide)]; exact h),fun h => by rw [upd_ne x _ (show 2 ≠ 3 by decide)]; exact f2 (by rw [← getD_set_ne true (show 3 ≠ 2 by decide)]; exact h),fun _ => upd_same _ _ _,fun h => by rw [upd_ne x _ (show 4 ≠ 3 by decide)]; exact f4 (by rw [← getD_set_ne true (show 3 ≠ 4 by decide)]; exact h),fun h => by obtain ⟨v0,e0,hv0⟩:=f5 (by rw [← getD_set_ne true (show 3 ≠ 5 by decide)]; exact h); exact ⟨v0,by rw [upd_ne x _ (show 5 ≠ 3 by decide)]; exact e0,hv0⟩,fun h => by rw [upd_ne x _ (show 6 ≠ 3 by decide),upd_ne x _ (show 5 ≠ 3 by decide)]; exact f6 (by rw [← getD_set_ne true (show 3 ≠ 6 by decide)]; exact h),fun h => by rw [upd_ne x _ (show 5 ≠ 3 by decide),upd_ne x _ (show 7 ≠ 3 by decide)]; exact f7 (by rw [← getD_set_ne true (show 3 ≠ 7 by decide)]; exact h),fun h => by rw [upd_ne x _ (show 8 ≠ 3 by decide)]; exact f8 (by rw [← getD_set_ne true (show 3 ≠ 8 by decide)]; exact h),fun h => by obtain ⟨b0,hl0,hx0,⟨cs0,hz0,hk0⟩,hn0⟩:=f9 (by rw [← getD_set_ne true (show 3 ≠ 9 by decide)]; exact h); exact ⟨b0,hl0,by rw [upd_ne x _ (show 9 ≠ 3 by decide)]; exact hx0,⟨cs0,hz0,hk0⟩,fun h5 v hv => hn0 (by rw [← getD_set_ne true (show 3 ≠ 5 by decide)]; exact h5) v (by rw [upd_ne x _ (show 5 ≠ 3 by decide)] at hv; exact hv)⟩,fun h => by obtain ⟨b0,cs0,hz0,hl0,hx0,h70,hk0,hn0⟩:=f10 (by rw [← getD_set_ne true (show 3 ≠ 10 by decide)]; exact h); exact ⟨b0,cs0,hz0,hl0,by rw [upd_ne x _ (show 9 ≠ 3 by decide)]; exact hx0,by rw [upd_ne x _ (show 7 ≠ 3 by decide)]; exact h70,hk0,by rw [upd_ne x _ (show 7 ≠ 3 by decide)]; exact hn0⟩,fun h => by rw [upd_ne x _ (show 11 ≠ 3 by decide)]; exact f11 (by rw [← getD_set_ne true (show 3 ≠ 11 by decide)]; exact h)⟩⟩
    ·have d3:=getD_ft (haf _ rfl ⟨3,.data⟩ (by simp) rfl)
     have e23:b.eval (.tmp 23) = .pointer (some (ad.add (k * 13))):=by rw [hbe,eval_in _ _ _ 3 (by decide) rfl (by rw [hz]; decide)]; exact f3 d3
     have t23:=e23; simp only [Act.eval,Array.getD_eq_getD_getElem?] at t23
     obtain ⟨ae,he,_,y0,y1,y2,y3,y4,y5,y6,y7,y8,y9,y10,y11,y12⟩:=(HLR.out.up hBw).lst.atDr HD.out hkn
     injection he with he
     subst he
     rw [HDD.out] at y0 y1 y2 y3 y4 y5 y6 y7 y8 y9 y10 y11 y12
     refine wpOp_runs (v:=.agg #[.int .i64 d.op,.int .i64 d.kd,.int .i64 d.id,.int .i64 d.fr,.int .i64 d.tn,.int .i64 d.st,.int .i64 d.en,.int .i64 d.rt,.int .i64 d.rf,.int .i64 d.rn,.int .i64 d.rs,.int .i64 d.re,.int .i64 d.ro]) rfl rfl (by simp [execOp,go_sem,t23,y0,y1,y2,y3,y4,y5,y6,y7,y8,y9,y10,y11,y12]) ⟨_,_,rfl,rfl,⟨hBw,fun h => by rw [upd_ne x _ (show 0 ≠ 4 by decide)]; exact f0 (by rw [← getD_set_ne true (show 4 ≠ 0 by decide)]; exact h),fun h => by rw [upd_ne x _ (show 1 ≠ 4 by decide)]; exact f1 (by rw [← getD_set_ne true (show 4 ≠ 1 by decide)]; exact h),fun h => by rw [upd_ne x _ (show 2 ≠ 4 by decide)]; exact f2 (by rw [← getD_set_ne true (show 4 ≠ 2 by decide)]; exact h),fun h => by rw [upd_ne x _ (show 3 ≠ 4 by decide)]; exact f3 (by rw [← getD_set_ne true (show 4 ≠ 3 by decide)]; exact h),fun _ => upd_same _ _ _,fun h => by obtain ⟨v0,e0,hv0⟩:=f5 (by rw [← getD_set_ne true (show 4 ≠ 5 by decide)]; exact h); exact ⟨v0,by rw [upd_ne x _ (show 5 ≠ 4 by decide)]; exact e0,hv0⟩,fun h => by rw [upd_ne x _ (show 6 ≠ 4 by decide),upd_ne x _ (show 5 ≠ 4 by decide)]; exact f6 (by rw [← getD_set_ne true (show 4 ≠ 6 by decide)]; exact h),fun h => by rw [upd_ne x _ (show 5 ≠ 4 by decide),upd_ne x _ (show 7 ≠ 4 by decide)]; exact f7 (by rw [← getD_set_ne true (show 4 ≠ 7 by decide)]; exact h),fun h => by rw [upd_ne x _ (show 8 ≠ 4 by decide)]; exact f8 (by rw [← getD_set_ne true (show 4 ≠ 8 by decide)]; exact h),fun h => by obtain ⟨b0,hl0,hx0,⟨cs0,hz0,hk0⟩,hn0⟩:=f9 (by rw [← getD_set_ne true (show 4 ≠ 9 by decide)]; exact h); exact ⟨b0,hl0,by rw [upd_ne x _ (show 9 ≠ 4 by decide)]; exact hx0,⟨cs0,hz0,hk0⟩,fun h5 v hv => hn0 (by rw [← getD_set_ne true (show 4 ≠ 5 by decide)]; exact h5) v (by rw [upd_ne x _ (show 5 ≠ 4 by decide)] at hv; exact hv)⟩,fun h => by obtain ⟨b0,cs0,hz0,hl0,hx0,h70,hk0,hn0⟩:=f10 (by rw [← getD_set_ne true (show 4 ≠ 10 by decide)]; exact h); exact ⟨b0,cs0,hz0,hl0,by rw [upd_ne x _ (show 9 ≠ 4 by decide)]; exact hx0,by rw [upd_ne x _ (show 7 ≠ 4 by decide)]; exact h70,hk0,by rw [upd_ne x _ (show 7 ≠ 4 by decide)]; exact hn0⟩,fun h => by rw [upd_ne x _ (show 11 ≠ 4 by decide)]; exact f11 (by rw [← getD_set_ne true (show 4 ≠ 11 by decide)]; exact h)⟩⟩
    ·have d0:=getD_ft (haf _ rfl ⟨0,.data⟩ (by simp) rfl)
     have d4:=getD_ft (haf _ rfl ⟨4,.data⟩ (by simp) rfl)
     have e20:b.eval (.tmp 20) = .agg #[.slice A2 n2 c2,.slice A3 n3 c3,.int .i64 pk.clk,.int .i64 pk.ver]:=by rw [hbe,eval_in _ _ _ 0 (by decide) rfl (by rw [hz]; decide)]; exact f0 d0
     have e24:b.eval (.tmp 24) = .agg #[.int .i64 d.op,.int .i64 d.kd,.int .i64 d.id,.int .i64 d.fr,.int .i64 d.tn,.int .i64 d.st,.int .i64 d.en,.int .i64 d.rt,.int .i64 d.rf,.int .i64 d.rn,.int .i64 d.rs,.int .i64 d.re,.int .i64 d.ro]:=by rw [hbe,eval_in _ _ _ 4 (by decide) rfl (by rw [hz]; decide)]; exact f4 d4
     refine wpOp_of rfl ?_
     refine step_call rfl 24 #[.tmp 20,.tmp 24] _ rfl #[.agg #[.slice A2 n2 c2,.slice A3 n3 c3,.int .i64 pk.clk,.int .i64 pk.ver],.agg #[.int .i64 d.op,.int .i64 d.kd,.int .i64 d.id,.int .i64 d.fr,.int .i64 d.tn,.int .i64 d.st,.int .i64 d.en,.int .i64 d.rt,.int .i64 d.rf,.int .i64 d.rn,.int .i64 d.rs,.int .i64 d.re,.int .i64 d.ro]] (by simp [e20,e24]) Tryz.func24 rfl rfl ?_
     refine (rpapply_any A2 n2 c2 A3 n3 c3 pk d w' (HPA.out.at_.up hBw) hrr).mono ?_
     rintro e w'' ⟨A4,n4,c4,A5,n5,c5,rfl,hown,hb⟩
     rw [HPP.out] at hown
     rw [HPP.out,HQQ.out]
     have hbs:=hBw.size
     exact ⟨_,rfl,_,_,rfl,rfl,⟨hBw.trans (hb.mono hBw.size),fun h => by rw [upd_ne x _ (show 0 ≠ 5 by decide)]; exact f0 (by rw [← getD_set_ne true (show 5 ≠ 0 by decide)]; exact h),fun h => by rw [upd_ne x _ (show 1 ≠ 5 by decide)]; exact f1 (by rw [← getD_set_ne true (show 5 ≠ 1 by decide)]; exact h),fun h => by rw [upd_ne x _ (show 2 ≠ 5 by decide)]; exact f2 (by rw [← getD_set_ne true (show 5 ≠ 2 by decide)]; exact h),fun h => by rw [upd_ne x _ (show 3 ≠ 5 by decide)]; exact f3 (by rw [← getD_set_ne true (show 5 ≠ 3 by decide)]; exact h),fun h => by rw [upd_ne x _ (show 4 ≠ 5 by decide)]; exact f4 (by rw [← getD_set_ne true (show 5 ≠ 4 by decide)]; exact h),fun _ => ⟨_,upd_same _ _ _,⟨A4,n4,c4,A5,n5,c5,rfl,hown.down hbs⟩⟩,fun h => absurd (getD_ft (hcl 6 _ rfl (by rw [← getD_set_ne true (show 5 ≠ 6 by decide)]; exact h) ⟨5,.data⟩ (by simp) rfl)) (by rw [hun]; decide),fun h => absurd (getD_ft (hcl 6 _ rfl (getD_ft (hcl 7 _ rfl (by rw [← getD_set_ne true (show 5 ≠ 7 by decide)]; exact h) ⟨6,.data⟩ (by simp) rfl)) ⟨5,.data⟩ (by simp) rfl)) (by rw [hun]; decide),fun h => by rw [upd_ne x _ (show 8 ≠ 5 by decide)]; exact f8 (by rw [← getD_set_ne true (show 5 ≠ 8 by decide)]; exact h),fun h => by obtain ⟨b0,hl0,hx0,⟨cs0,hz0,hk0⟩,_⟩:=f9 (by rw [← getD_set_ne true (show 5 ≠ 9 by decide)]; exact h); exact ⟨b0,hl0,by rw [upd_ne x _ (show 9 ≠ 5 by decide)]; exact hx0,⟨cs0,hz0,hk0.below hb hk0.lt⟩,fun _ v hv => by rw [upd_same] at hv; exact PlN.of_own hk0.lt hown hv⟩,fun h => absurd (getD_ft (hcl 6 _ rfl (getD_ft (hcl 7 _ rfl (getD_ft (hcl 10 _ rfl (by rw [← getD_set_ne true (show 5 ≠ 10 by decide)]; exact h) ⟨7,.data⟩ (by simp) rfl)) ⟨6,.data⟩ (by simp) rfl)) ⟨5,.data⟩ (by simp) rfl)) (by rw [hun]; decide),fun h => by rw [upd_ne x _ (show 11 ≠ 5 by decide)]; exact f11 (by rw [← getD_set_ne true (show 5 ≠ 11 by decide)]; exact h)⟩⟩
    ·have d5:=getD_ft (haf _ rfl ⟨5,.data⟩ (by simp) rfl)
     have e25:b.eval (.tmp 25) = x 5:=by rw [hbe,eval_in _ _ _ 5 (by decide) rfl (by rw [hz]; decide)]
     obtain ⟨v5,e5,hv5⟩:=f5 d5
     rw [e5] at e25
     have t25:=e25; simp only [Act.eval,Array.getD_eq_getD_getElem?] at t25
     refine wpOp_runs (v:=.tuple #[v5,.int .i64 q]) rfl rfl (by simp [execOp,go_sem,t25]) ⟨_,_,rfl,rfl,⟨hBw,fun h => by rw [upd_ne x _ (show 0 ≠ 6 by decide)]; exact f0 (by rw [← getD_set_ne true (show 6 ≠ 0 by decide)]; exact h),fun h => by rw [upd_ne x _ (show 1 ≠ 6 by decide)]; exact f1 (by rw [← getD_set_ne true (show 6 ≠ 1 by decide)]; exact h),fun h => by rw [upd_ne x _ (show 2 ≠ 6 by decide)]; exact f2 (by rw [← getD_set_ne true (show 6 ≠ 2 by decide)]; exact h),fun h => by rw [upd_ne x _ (show 3 ≠ 6 by decide)]; exact f3 (by rw [← getD_set_ne true (show 6 ≠ 3 by decide)]; exact h),fun h => by rw [upd_ne x _ (show 4 ≠ 6 by decide)]; exact f4 (by rw [← getD_set_ne true (show 6 ≠ 4 by decide)]; exact h),fun h => by obtain ⟨v0,e0,hv0⟩:=f5 (by rw [← getD_set_ne true (show 6 ≠ 5 by decide)]; exact h); exact ⟨v0,by rw [upd_ne x _ (show 5 ≠ 6 by decide)]; exact e0,hv0⟩,fun _ => by rw [upd_same,upd_ne x _ (show 5 ≠ 6 by decide),e5],fun h => absurd (getD_ft (hcl 7 _ rfl (by rw [← getD_set_ne true (show 6 ≠ 7 by decide)]; exact h) ⟨6,.data⟩ (by simp) rfl)) (by rw [hun]; decide),fun h => by rw [upd_ne x _ (show 8 ≠ 6 by decide)]; exact f8 (by rw [← getD_set_ne true (show 6 ≠ 8 by decide)]; exact h),fun h => by obtain ⟨b0,hl0,hx0,⟨cs0,hz0,hk0⟩,hn0⟩:=f9 (by rw [← getD_set_ne true (show 6 ≠ 9 by decide)]; exact h); exact ⟨b0,hl0,by rw [upd_ne x _ (show 9 ≠ 6 by decide)]; exact hx0,⟨cs0,hz0,hk0⟩,fun h5 v hv => hn0 (by rw [← getD_set_ne true (show 6 ≠ 5 by decide)]; exact h5) v (by rw [upd_ne x _ (show 5 ≠ 6 by decide)] at hv; exact hv)⟩,fun h => absurd (getD_ft (hcl 7 _ rfl (getD_ft (hcl 10 _ rfl (by rw [← getD_set_ne true (show 6 ≠ 10 by decide)]; exact h) ⟨7,.data⟩ (by simp) rfl)) ⟨6,.data⟩ (by simp) rfl)) (by rw [hun]; decide),fun h => by rw [upd_ne x _ (show 11 ≠ 6 by decide)]; exact f11 (by rw [← getD_set_ne true (show 6 ≠ 11 by decide)]; exact h)⟩⟩
    ·have d6:=getD_ft (haf _ rfl ⟨6,.data⟩ (by simp) rfl)
     have d5:=(getD_ft (hcl 6 _ rfl d6 ⟨5,.data⟩ (by simp) rfl))
     have e19:b.eval (.tmp 19) = x 6:=by rw [hbe,eval_in _ _ _ 6 (by decide) rfl (by rw [hz]; decide)]
     obtain ⟨v5,e5,hv5⟩:=f5 d5
     rw [f6 d6,e5] at e19
     have t19:=e19; simp only [Act.eval,Array.getD_eq_getD_getElem?] at t19
     refine wpOp_runs (v:=v5) rfl rfl (by simp [execOp,go_sem,t19]) ⟨_,_,rfl,rfl,⟨hBw,fun h => by rw [upd_ne x _ (show 0 ≠ 7 by decide)]; exact f0 (by rw [← getD_set_ne true (show 7 ≠ 0 by decide)]; exact h),fun h => by rw [upd_ne x _ (show 1 ≠ 7 by decide)]; exact f1 (by rw [← getD_set_ne true (show 7 ≠ 1 by decide)]; exact h),fun h => by rw [upd_ne x _ (show 2 ≠ 7 by decide)]; exact f2 (by rw [← getD_set_ne true (show 7 ≠ 2 by decide)]; exact h),fun h => by rw [upd_ne x _ (show 3 ≠ 7 by decide)]; exact f3 (by rw [← getD_set_ne true (show 7 ≠ 3 by decide)]; exact h),fun h => by rw [upd_ne x _ (show 4 ≠ 7 by decide)]; exact f4 (by rw [← getD_set_ne true (show 7 ≠ 4 by decide)]; exact h),fun h => by obtain ⟨v0,e0,hv0⟩:=f5 (by rw [← getD_set_ne true (show 7 ≠ 5 by decide)]; exact h); exact ⟨v0,by rw [upd_ne x _ (show 5 ≠ 7 by decide)]; exact e0,hv0⟩,fun h => by rw [upd_ne x _ (show 6 ≠ 7 by decide),upd_ne x _ (show 5 ≠ 7 by decide)]; exact f6 (by rw [← getD_set_ne true (show 7 ≠ 6 by decide)]; exact h),fun _ => by rw [upd_ne x _ (show 5 ≠ 7 by decide),upd_same,e5],fun h => by rw [upd_ne x _ (show 8 ≠ 7 by decide)]; exact f8 (by rw [← getD_set_ne true (show 7 ≠ 8 by decide)]; exact h),fun h => by obtain ⟨b0,hl0,hx0,⟨cs0,hz0,hk0⟩,hn0⟩:=f9 (by rw [← getD_set_ne true (show 7 ≠ 9 by decide)]; exact h); exact ⟨b0,hl0,by rw [upd_ne x _ (show 9 ≠ 7 by decide)]; exact hx0,⟨cs0,hz0,hk0⟩,fun h5 v hv => hn0 (by rw [← getD_set_ne true (show 7 ≠ 5 by decide)]; exact h5) v (by rw [upd_ne x _ (show 5 ≠ 7 by decide)] at hv; exact hv)⟩,fun h => absurd (getD_ft (hcl 10 _ rfl (by rw [← getD_set_ne true (show 7 ≠ 10 by decide)]; exact h) ⟨7,.data⟩ (by simp) rfl)) (by rw [hun]; decide),fun h => by rw [upd_ne x _ (show 11 ≠ 7 by decide)]; exact f11 (by rw [← getD_set_ne true (show 7 ≠ 11 by decide)]; exact h)⟩⟩
    ·have d6:=getD_ft (haf _ rfl ⟨6,.data⟩ (by simp) rfl)
     have d5:=(getD_ft (hcl 6 _ rfl d6 ⟨5,.data⟩ (by simp) rfl))
     have e19:b.eval (.tmp 19) = x 6:=by rw [hbe,eval_in _ _ _ 6 (by decide) rfl (by rw [hz]; decide)]
     obtain ⟨v5,e5,hv5⟩:=f5 d5
     rw [f6 d6,e5] at e19
     have t19:=e19; simp only [Act.eval,Array.getD_eq_getD_getElem?] at t19
     refine wpOp_runs (v:=.int .i64 q) rfl rfl (by simp [execOp,go_sem,t19]) ⟨_,_,rfl,rfl,⟨hBw,fun h => by rw [upd_ne x _ (show 0 ≠ 8 by decide)]; exact f0 (by rw [← getD_set_ne true (show 8 ≠ 0 by decide)]; exact h),fun h => by rw [upd_ne x _ (show 1 ≠ 8 by decide)]; exact f1 (by rw [← getD_set_ne true (show 8 ≠ 1 by decide)]; exact h),fun h => by rw [upd_ne x _ (show 2 ≠ 8 by decide)]; exact f2 (by rw [← getD_set_ne true (show 8 ≠ 2 by decide)]; exact h),fun h => by rw [upd_ne x _ (show 3 ≠ 8 by decide)]; exact f3 (by rw [← getD_set_ne true (show 8 ≠ 3 by decide)]; exact h),fun h => by rw [upd_ne x _ (show 4 ≠ 8 by decide)]; exact f4 (by rw [← getD_set_ne true (show 8 ≠ 4 by decide)]; exact h),fun h => by obtain ⟨v0,e0,hv0⟩:=f5 (by rw [← getD_set_ne true (show 8 ≠ 5 by decide)]; exact h); exact ⟨v0,by rw [upd_ne x _ (show 5 ≠ 8 by decide)]; exact e0,hv0⟩,fun h => by rw [upd_ne x _ (show 6 ≠ 8 by decide),upd_ne x _ (show 5 ≠ 8 by decide)]; exact f6 (by rw [← getD_set_ne true (show 8 ≠ 6 by decide)]; exact h),fun h => by rw [upd_ne x _ (show 5 ≠ 8 by decide),upd_ne x _ (show 7 ≠ 8 by decide)]; exact f7 (by rw [← getD_set_ne true (show 8 ≠ 7 by decide)]; exact h),fun _ => upd_same _ _ _,fun h => by obtain ⟨b0,hl0,hx0,⟨cs0,hz0,hk0⟩,hn0⟩:=f9 (by rw [← getD_set_ne true (show 8 ≠ 9 by decide)]; exact h); exact ⟨b0,hl0,by rw [upd_ne x _ (show 9 ≠ 8 by decide)]; exact hx0,⟨cs0,hz0,hk0⟩,fun h5 v hv => hn0 (by rw [← getD_set_ne true (show 8 ≠ 5 by decide)]; exact h5) v (by rw [upd_ne x _ (show 5 ≠ 8 by decide)] at hv; exact hv)⟩,fun h => by obtain ⟨b0,cs0,hz0,hl0,hx0,h70,hk0,hn0⟩:=f10 (by rw [← getD_set_ne true (show 8 ≠ 10 by decide)]; exact h); exact ⟨b0,cs0,hz0,hl0,by rw [upd_ne x _ (show 9 ≠ 8 by decide)]; exact hx0,by rw [upd_ne x _ (show 7 ≠ 8 by decide)]; exact h70,hk0,by rw [upd_ne x _ (show 7 ≠ 8 by decide)]; exact hn0⟩,fun h => by rw [upd_ne x _ (show 11 ≠ 8 by decide)]; exact f11 (by rw [← getD_set_ne true (show 8 ≠ 11 by decide)]; exact h)⟩⟩
    ·have hb:Below w'.heap.size w' (w'.alloc (.cells #[.slice none 0 0,.slice none 0 0,.int .i64 0,.int .i64 0] 25)):=by (repeat (first | exact Below.refl _ _ | refine Below.alloc ?_ (by first | omega | (simp; done) | (simp; omega)) _ | refine Below.setCell ?_ (by first | omega | (simp; done) | (simp; omega)) _ | refine Below.drew ?_))
     have hbs:=hBw.size
     refine wpOp_runs (v:=.pointer (some ⟨w'.heap.size,0,none⟩)) (w':=w'.alloc (.cells #[.slice none 0 0,.slice none 0 0,.int .i64 0,.int .i64 0] 25)) rfl rfl (by simp [execOp,go_sem]) ⟨_,_,rfl,rfl,⟨hBw.trans (hb.mono hBw.size),fun h => by rw [upd_ne x _ (show 0 ≠ 9 by decide)]; exact f0 (by rw [← getD_set_ne true (show 9 ≠ 0 by decide)]; exact h),fun h => by rw [upd_ne x _ (show 1 ≠ 9 by decide)]; exact f1 (by rw [← getD_set_ne true (show 9 ≠ 1 by decide)]; exact h),fun h => by rw [upd_ne x _ (show 2 ≠ 9 by decide)]; exact f2 (by rw [← getD_set_ne true (show 9 ≠ 2 by decide)]; exact h),fun h => by rw [upd_ne x _ (show 3 ≠ 9 by decide)]; exact f3 (by rw [← getD_set_ne true (show 9 ≠ 3 by decide)]; exact h),fun h => by rw [upd_ne x _ (show 4 ≠ 9 by decide)]; exact f4 (by rw [← getD_set_ne true (show 9 ≠ 4 by decide)]; exact h),fun h => by obtain ⟨v0,e0,hv0⟩:=f5 (by rw [← getD_set_ne true (show 9 ≠ 5 by decide)]; exact h); exact ⟨v0,by rw [upd_ne x _ (show 5 ≠ 9 by decide)]; exact e0,hv0.below hb⟩,fun h => by rw [upd_ne x _ (show 6 ≠ 9 by decide),upd_ne x _ (show 5 ≠ 9 by decide)]; exact f6 (by rw [← getD_set_ne true (show 9 ≠ 6 by decide)]; exact h),fun h => by rw [upd_ne x _ (show 5 ≠ 9 by decide),upd_ne x _ (show 7 ≠ 9 by decide)]; exact f7 (by rw [← getD_set_ne true (show 9 ≠ 7 by decide)]; exact h),fun h => by rw [upd_ne x _ (show 8 ≠ 9 by decide)]; exact f8 (by rw [← getD_set_ne true (show 9 ≠ 8 by decide)]; exact h),fun _ => ⟨w'.heap.size,hbs,upd_same _ _ _,⟨_,rfl,Blok.new _ _ _⟩,fun h5 v hv => by rw [upd_ne x _ (show 5 ≠ 9 by decide)] at hv; obtain ⟨v0,e0,hv0⟩:=f5 (by rw [← getD_set_ne true (show 9 ≠ 5 by decide)]; exact h5); rw [e0] at hv; injection hv with hv; injection hv with hv; injection hv with hv _; subst hv; exact PlN.of_below hv0⟩,fun h => absurd (getD_ft (hcl 10 _ rfl (by rw [← getD_set_ne true (show 9 ≠ 10 by decide)]; exact h) ⟨9,.data⟩ (by simp) rfl)) (by rw [hun]; decide),fun h => by rw [upd_ne x _ (show 11 ≠ 9 by decide)]; exact f11 (by rw [← getD_set_ne true (show 9 ≠ 11 by decide)]; exact h)⟩⟩
    ·have d9:=getD_ft (haf _ rfl ⟨9,.data⟩ (by simp) rfl)
     have d7:=getD_ft (haf _ rfl ⟨7,.data⟩ (by simp) rfl)
     have d6:=(getD_ft (hcl 7 _ rfl d7 ⟨6,.data⟩ (by simp) rfl))
     have d5:=(getD_ft (hcl 6 _ rfl d6 ⟨5,.data⟩ (by simp) rfl))
     obtain ⟨b9,hl9,hx9,⟨c9,hz9,hk9⟩,hn9⟩:=f9 d9
     obtain ⟨v5,e5,hv5⟩:=f5 d5
     have hv7:=PlV.seven e5 (f7 d7) hv5
     obtain ⟨cs7,hz7,ho7,hx7⟩:=hv7.agg
     have e9:b.eval (.tmp 9) = .pointer (some ⟨b9,0,none⟩):=by rw [hbe,eval_in _ _ _ 9 (by decide) rfl (by rw [hz]; decide)]; exact hx9
     have e26:b.eval (.tmp 26) = .agg cs7:=by rw [hbe,eval_in _ _ _ 7 (by decide) rfl (by rw [hz]; decide)]; exact hx7
     refine wpOp_of rfl ?_
     rw [if_pos (by simp [Region.wanted])]
     refine wp_store_mid 25 (.tmp 9) (.tmp 26) rfl b9 0 cs7 e9 e26 ?_ (by rw [hz7]; kernel_rfl) ho7 ?_
     ·intro j hj
      rw [Nat.zero_add]
      refine ⟨?_,hk9.free j⟩
      rw [hk9.cell j]
      have:j < c9.size:=by omega
      simp [this]
     ·refine ⟨_,_,rfl,rfl,⟨set_below b9 hl9 _ _ hBw,fun h => by rw [upd_ne x _ (show 0 ≠ 10 by decide)]; exact f0 (by rw [← getD_set_ne true (show 10 ≠ 0 by decide)]; exact h),fun h => by rw [upd_ne x _ (show 1 ≠ 10 by decide)]; exact f1 (by rw [← getD_set_ne true (show 10 ≠ 1 by decide)]; exact h),fun h => by rw [upd_ne x _ (show 2 ≠ 10 by decide)]; exact f2 (by rw [← getD_set_ne true (show 10 ≠ 2 by decide)]; exact h),fun h => by rw [upd_ne x _ (show 3 ≠ 10 by decide)]; exact f3 (by rw [← getD_set_ne true (show 10 ≠ 3 by decide)]; exact h),fun h => by rw [upd_ne x _ (show 4 ≠ 10 by decide)]; exact f4 (by rw [← getD_set_ne true (show 10 ≠ 4 by decide)]; exact h),fun h => by obtain ⟨v0,e0,hv0⟩:=f5 (by rw [← getD_set_ne true (show 10 ≠ 5 by decide)]; exact h); exact ⟨v0,by rw [upd_ne x _ (show 5 ≠ 10 by decide)]; exact e0,hv0.far (grown_sets _ _ _) (hn9 d5 _ e0)⟩,fun h => by rw [upd_ne x _ (show 6 ≠ 10 by decide),upd_ne x _ (show 5 ≠ 10 by decide)]; exact f6 (by rw [← getD_set_ne true (show 10 ≠ 6 by decide)]; exact h),fun h => by rw [upd_ne x _ (show 5 ≠ 10 by decide),upd_ne x _ (show 7 ≠ 10 by decide)]; exact f7 (by rw [← getD_set_ne true (show 10 ≠ 7 by decide)]; exact h),fun h => by rw [upd_ne x _ (show 8 ≠ 10 by decide)]; exact f8 (by rw [← getD_set_ne true (show 10 ≠ 8 by decide)]; exact h),fun h => ⟨b9,hl9,by rw [upd_ne x _ (show 9 ≠ 10 by decide)]; exact hx9,⟨_,hz7,set_whole hk9 (by rw [hz7,hz9])⟩,fun _ v hv => by rw [upd_ne x _ (show 5 ≠ 10 by decide)] at hv; exact hn9 d5 v hv⟩,fun _ => ⟨b9,cs7,hz7,hl9,by rw [upd_ne x _ (show 9 ≠ 10 by decide)]; exact hx9,by rw [upd_ne x _ (show 7 ≠ 10 by decide)]; exact hx7,set_whole hk9 (by rw [hz7,hz9]),by rw [upd_ne x _ (show 7 ≠ 10 by decide)]; exact hn9 d5 _ (f7 d7)⟩,fun h => by rw [upd_ne x _ (show 11 ≠ 10 by decide)]; exact f11 (by rw [← getD_set_ne true (show 10 ≠ 11 by decide)]; exact h)⟩⟩
    ·have d8:=getD_ft (haf _ rfl ⟨8,.data⟩ (by simp) rfl)
     have e27:b.eval (.tmp 27) = .int .i64 q:=by rw [hbe,eval_in _ _ _ 8 (by decide) rfl (by rw [hz]; decide)]; exact f8 d8
     have t27:=e27; simp only [Act.eval,Array.getD_eq_getD_getElem?] at t27
     refine wpOp_runs (v:=.int .i64 q) rfl rfl (by simp [execOp,go_sem,t27]) ⟨_,_,rfl,rfl,⟨hBw,fun h => by rw [upd_ne x _ (show 0 ≠ 11 by decide)]; exact f0 (by rw [← getD_set_ne true (show 11 ≠ 0 by decide)]; exact h),fun h => by rw [upd_ne x _ (show 1 ≠ 11 by decide)]; exact f1 (by rw [← getD_set_ne true (show 11 ≠ 1 by decide)]; exact h),fun h => by rw [upd_ne x _ (show 2 ≠ 11 by decide)]; exact f2 (by rw [← getD_set_ne true (show 11 ≠ 2 by decide)]; exact h),fun h => by rw [upd_ne x _ (show 3 ≠ 11 by decide)]; exact f3 (by rw [← getD_set_ne true (show 11 ≠ 3 by decide)]; exact h),fun h => by rw [upd_ne x _ (show 4 ≠ 11 by decide)]; exact f4 (by rw [← getD_set_ne true (show 11 ≠ 4 by decide)]; exact h),fun h => by obtain ⟨v0,e0,hv0⟩:=f5 (by rw [← getD_set_ne true (show 11 ≠ 5 by decide)]; exact h); exact ⟨v0,by rw [upd_ne x _ (show 5 ≠ 11 by decide)]; exact e0,hv0⟩,fun h => by rw [upd_ne x _ (show 6 ≠ 11 by decide),upd_ne x _ (show 5 ≠ 11 by decide)]; exact f6 (by rw [← getD_set_ne true (show 11 ≠ 6 by decide)]; exact h),fun h => by rw [upd_ne x _ (show 5 ≠ 11 by decide),upd_ne x _ (show 7 ≠ 11 by decide)]; exact f7 (by rw [← getD_set_ne true (show 11 ≠ 7 by decide)]; exact h),fun h => by rw [upd_ne x _ (show 8 ≠ 11 by decide)]; exact f8 (by rw [← getD_set_ne true (show 11 ≠ 8 by decide)]; exact h),fun h => by obtain ⟨b0,hl0,hx0,⟨cs0,hz0,hk0⟩,hn0⟩:=f9 (by rw [← getD_set_ne true (show 11 ≠ 9 by decide)]; exact h); exact ⟨b0,hl0,by rw [upd_ne x _ (show 9 ≠ 11 by decide)]; exact hx0,⟨cs0,hz0,hk0⟩,fun h5 v hv => hn0 (by rw [← getD_set_ne true (show 11 ≠ 5 by decide)]; exact h5) v (by rw [upd_ne x _ (show 5 ≠ 11 by decide)] at hv; exact hv)⟩,fun h => by obtain ⟨b0,cs0,hz0,hl0,hx0,h70,hk0,hn0⟩:=f10 (by rw [← getD_set_ne true (show 11 ≠ 10 by decide)]; exact h); exact ⟨b0,cs0,hz0,hl0,by rw [upd_ne x _ (show 9 ≠ 11 by decide)]; exact hx0,by rw [upd_ne x _ (show 7 ≠ 11 by decide)]; exact h70,hk0,by rw [upd_ne x _ (show 7 ≠ 11 by decide)]; exact hn0⟩,fun _ => upd_same _ _ _⟩⟩
   intro V x w' hall hF
   obtain ⟨hb,f0,f1,f2,f3,f4,f5,f6,f7,f8,f9,f10,f11⟩:=hF
   obtain ⟨bZ,cs,hz4,hbZ,hx9,hx7,hZ,hnz⟩:=f10 (hall 10 (by decide))
   obtain ⟨v5,e5,hv5⟩:=f5 (hall 5 (by decide))
   have hv7:=PlV.seven e5 (f7 (hall 7 (by decide))) hv5
   have hx11:=f11 (hall 11 (by decide))
   obtain ⟨A4,n4,c4,A5,n5,c5,e7,ho⟩:=hv7
   rw [e7] at hx7
   injection hx7 with hx7
   subst hx7
   have hbNl:bN < wr.heap.size:=hN.lt
   have hwl:w.heap.size + 1 < wr.heap.size:=hR.lt
   have hnb1:NB bN (.slice A4 n4 c4):=fun g hg => by have:=(ho.o1.lt g hg).1; omega
   have hnb2:NB bN (.slice A5 n5 c5):=fun g hg => by have:=(ho.o.lt g hg).1; omega
   replace ho:=ho.down (b':=w.heap.size + 2) (by omega)
   clear f0 f1 f2 f3 f4 f5 f6 f7 f8 f9 f10 f11 hall hnz e5 hv5 e7 hz4
   subst ha0
   replace hP:=hP.below hb hP.lt
   replace hR:=hR.below hb hR.lt
   replace hN:=hN.below hb hN.lt
   replace hB:=hB.trans (hb.mono hs)
   replace hs:=hB.size
   clear hb
   simp only [List.map_cons,List.map_nil,putAll,hx9,hx11]
   clear hx9 hx11
   go_simp
   by_cases hq0:q = 0
   ·have hQ0:=HQQ.out
    rw [hq0] at hQ0
    have HQ0:=Lib.hid hQ0
    have g5:(q != 0) = false:=by simp [hq0]
    clear hq0 hQ0
    obtain ⟨n_0,n_1,n_2,n_3,lt_n_⟩:=blok4 (show Blok _ _ _ #[.slice A4 n4 c4,.slice A5 n5 c5,.int .i64 pp.clk,.int .i64 pp.ver] from hZ)
    obtain ⟨nf_0,nf_1,nf_2,nf_3⟩:=free4 hZ
    have m0:w'.cell? ⟨bN,0,none⟩ = some (.slice A2 n2 c2):=hN.cell 0
    have m1:w'.cell? ⟨bN,1,none⟩ = some (.slice A3 n3 c3):=hN.cell 1
    have m2:w'.cell? ⟨bN,2,none⟩ = some (.int .i64 pk.clk):=hN.cell 2
    have m3:w'.cell? ⟨bN,3,none⟩ = some (.int .i64 pk.ver):=hN.cell 3
    have mf0:=hN.free 0
    have mf1:=hN.free 1
    have mf2:=hN.free 2
    have mf3:=hN.free 3
    have lt_m:=hN.lt
    go_upto_region 4 with fail
    clear n_0 n_1 n_2 n_3 nf_0 nf_1 nf_2 nf_3 lt_n_
    clear m0 m1 m2 m3 mf0 mf1 mf2 mf3 lt_m hZ
    have hgS:w'.grownBy ((((w'.setCell ⟨bN,0,none⟩ (.slice A4 n4 c4)).setCell ⟨bN,1,none⟩ (.slice A5 n5 c5)).setCell ⟨bN,2,none⟩ (.int .i64 pp.clk)).setCell ⟨bN,3,none⟩ (.int .i64 pp.ver)) (some bN):=grown_trans (grown_trans (grown_trans (grown_set _ _ _) (grown_set _ _ _)) (grown_set _ _ _)) (grown_set _ _ _)
    have ho1:=own_other ho.o1 hgS hnb1
    have ho2:=own_other ho.o hgS hnb2
    clear hgS
    replace hN:=hN.set_ 0 (.slice A4 n4 c4)
    replace hP:=hP.far (p:=⟨bN,0,none⟩) (by show w.heap.size ≠ bN; omega) (.slice A4 n4 c4)
    replace hR:=hR.far (p:=⟨bN,0,none⟩) (by show w.heap.size + 1 ≠ bN; omega) (.slice A4 n4 c4)
    replace hB:=hB.setCell (p:=⟨bN,0,none⟩) (by show w.heap.size ≤ bN; omega) (.slice A4 n4 c4)
    replace hN:=hN.set_ 1 (.slice A5 n5 c5)
    replace hP:=hP.far (p:=⟨bN,1,none⟩) (by show w.heap.size ≠ bN; omega) (.slice A5 n5 c5)
    replace hR:=hR.far (p:=⟨bN,1,none⟩) (by show w.heap.size + 1 ≠ bN; omega) (.slice A5 n5 c5)
    replace hB:=hB.setCell (p:=⟨bN,1,none⟩) (by show w.heap.size ≤ bN; omega) (.slice A5 n5 c5)
    replace hN:=hN.set_ 2 (.int .i64 pp.clk)
    replace hP:=hP.far (p:=⟨bN,2,none⟩) (by show w.heap.size ≠ bN; omega) (.int .i64 pp.clk)
    replace hR:=hR.far (p:=⟨bN,2,none⟩) (by show w.heap.size + 1 ≠ bN; omega) (.int .i64 pp.clk)
    replace hB:=hB.setCell (p:=⟨bN,2,none⟩) (by show w.heap.size ≤ bN; omega) (.int .i64 pp.clk)
    replace hN:=hN.set_ 3 (.int .i64 pp.ver)
    replace hP:=hP.far (p:=⟨bN,3,none⟩) (by show w.heap.size ≠ bN; omega) (.int .i64 pp.ver)
    replace hR:=hR.far (p:=⟨bN,3,none⟩) (by show w.heap.size + 1 ≠ bN; omega) (.int .i64 pp.ver)
    replace hB:=hB.setCell (p:=⟨bN,3,none⟩) (by show w.heap.size ≤ bN; omega) (.int .i64 pp.ver)
    replace hs:=hB.size
    generalize ((((w').setCell ⟨bN,0,none⟩ (.slice A4 n4 c4)).setCell ⟨bN,1,none⟩ (.slice A5 n5 c5)).setCell ⟨bN,2,none⟩ (.int .i64 pp.clk)).setCell ⟨bN,3,none⟩ (.int .i64 pp.ver) = w6 at *
    have he:runP p (ds.take (k + 1)) = pp:=by rw [HNX.out,HPK.out,HPP.out]
    have HE:=Lib.hid he
    clear he
    go_wp2_with fail
    go_roundw
    case rel => exact ⟨k + 1,A4,n4,c4,A5,n5,c5,by go_num,by omega,(fun j hj => by
      by_cases e:j = k
      ·subst e; rw [HPK.out,HDD.out]; exact HQ0.out
      ·exact HQ.out j (by omega)),(show PlOwn _ _ _ _ _ _ _ _ _ from by rw [HE.out]; exact ⟨ho.l1,ho.l,ho.b1,ho.b,ho1,ho2⟩),⟨hnb1,hnb2⟩,hB,hP,hR,(show Blok _ _ _ _ from by rw [HE.out]; exact hN)⟩
    case measure => simp [intOf]; omega
   ·have g5:(q != 0) = true:=by simp [hq0]
    have hall:=allQ_stop (k:=k) (by rw [HD.out]; exact hkn) HQ.out (by rw [HPK.out,HDD.out]; exact HQQ.out) hq0
    have hap:allP p ds = p:=by unfold allP; rw [if_neg (by rw [hall]; exact hq0)]
    have HALL:=Lib.hid hall
    have HAP:=Lib.hid hap
    clear hall hap hq0 hZ hN ho
    obtain ⟨p0,p1,p2,p3,lt_p⟩:=blok4 (show Blok _ _ _ #[.slice A1 n1 c1,.slice A n c,.int .i64 p.clk,.int .i64 p.ver] from hP)
    go_wp2_with fail
    clear p0 p1 p2 p3 lt_p
    refine (rpcopy_any A1 n1 c1 A n c p w' (H0.out.up hB)).mono ?_
    rintro e w6 ⟨A6,c6,A7,c7,rfl,ho6,hb⟩
    have hsw:w.heap.size + 1 < w'.heap.size:=hR.lt
    replace ho6:=ho6.down (b':=w.heap.size + 2) (by omega)
    replace hP:=hP.below hb hP.lt
    replace hR:=hR.below hb hR.lt
    replace hB:=hB.trans (hb.mono hs)
    replace hs:=hB.size
    clear hb
    obtain ⟨r0,r1,r2,r3,lt_x⟩:=blok4 hR
    obtain ⟨f_0,f_1,f_2,f_3⟩:=free4 hR
    have HX:=Lib.hid hR
    clear hR
    go_wp2_with fail
    have hX:=HX.out
    clear r0 r1 r2 r3
    obtain ⟨hF,hWf,hgw⟩:=ret4 (show Blok _ _ _ #[_,_,_,_] from hX) hB (show w.heap.size ≤ (w.heap.size + 1) by first | exact Nat.le_refl _ | omega) (.slice A6 n1 c6) (.slice A7 n c7) (.int .i64 p.clk) (.int .i64 p.ver)
    have hlF:=hF.lt
    generalize (((w6.setCell ⟨(w.heap.size + 1),0,none⟩ (.slice A6 n1 c6)).setCell ⟨(w.heap.size + 1),1,none⟩ (.slice A7 n c7)).setCell ⟨(w.heap.size + 1),2,none⟩ (.int .i64 p.clk)).setCell ⟨(w.heap.size + 1),3,none⟩ (.int .i64 p.ver) = wf at *
    obtain ⟨r0,r1,r2,r3,_⟩:=blok4 hF
    refine bodyPost_ret (v:=.tuple #[.agg #[.slice A6 n1 c6,.slice A7 n c7,.int .i64 p.clk,.int .i64 p.ver],.int .i64 k,.int .i64 q]) (by simp [results,Tryz.results18,go_sem,r0,r1,r2,r3,hlF]) rfl ?_
    exact ⟨A6,n1,c6,A7,n,c7,by rw [HAP.out,HALL.out],by rw [HAP.out]; exact ⟨ho6.l1,ho6.l,ho6.b1,ho6.b,own_down (own_far ho6.o1 hgw (fun g hg => by injection hg with hg; omega)) (by omega),own_down (own_far ho6.o hgw (fun g hg => by injection hg with hg; omega)) (by omega)⟩,hWf⟩
  ·have hkk:k = nd:=by omega
   have hall:=allQ_all (p:=p) (ds:=ds) (fun j hj => HQ.out j (by rw [HD.out] at hj; omega))
   obtain ⟨pk,hpk⟩:∃ x,runP p (ds.take k) = x:=⟨_,rfl⟩
   have hpa:=HPA.out
   rw [hpk] at hN hpa
   have hap:allP p ds = pk:=by unfold allP; rw [if_pos (by rw [hall]),← hpk,List.take_of_length_le (by rw [HD.out]; omega)]
   have HALL:=Lib.hid hall
   have HAP:=Lib.hid hap
   clear hall hap hpk HPA
   obtain ⟨n_0,n_1,n_2,n_3,lt_n_⟩:=blok4 (show Blok _ _ _ #[.slice A2 n2 c2,.slice A3 n3 c3,.int .i64 pk.clk,.int .i64 pk.ver] from hN)
   obtain ⟨nf_0,nf_1,nf_2,nf_3⟩:=free4 hN
   obtain ⟨r0,r1,r2,r3,lt_x⟩:=blok4 hR
   obtain ⟨f_0,f_1,f_2,f_3⟩:=free4 hR
   have HX:=Lib.hid hR
   clear hR
   go_wp2_with fail
   have hX:=HX.out
   clear n_0 n_1 n_2 n_3 nf_0 nf_1 nf_2 nf_3 lt_n_
   clear r0 r1 r2 r3
   obtain ⟨hF,hWf,hgw⟩:=ret4 (show Blok _ _ _ #[_,_,_,_] from hX) hB (show w.heap.size ≤ (w.heap.size + 1) by first | exact Nat.le_refl _ | omega) (.slice A2 n2 c2) (.slice A3 n3 c3) (.int .i64 pk.clk) (.int .i64 pk.ver)
   have hlF:=hF.lt
   generalize (((wr.setCell ⟨(w.heap.size + 1),0,none⟩ (.slice A2 n2 c2)).setCell ⟨(w.heap.size + 1),1,none⟩ (.slice A3 n3 c3)).setCell ⟨(w.heap.size + 1),2,none⟩ (.int .i64 pk.clk)).setCell ⟨(w.heap.size + 1),3,none⟩ (.int .i64 pk.ver) = wf at *
   obtain ⟨r0,r1,r2,r3,_⟩:=blok4 hF
   refine bodyPost_ret (v:=.tuple #[.agg #[.slice A2 n2 c2,.slice A3 n3 c3,.int .i64 pk.clk,.int .i64 pk.ver],.int .i64 nd,.int .i64 0]) (by simp [results,Tryz.results18,go_sem,r0,r1,r2,r3,hlF]) rfl ?_
   exact ⟨A2,n2,c2,A3,n3,c3,by rw [HAP.out,HALL.out,HD.out],by rw [HAP.out]; exact ⟨hpa.l1,hpa.l,hpa.b1,hpa.b,own_down (own_far hpa.o1 hgw (fun g hg => by injection hg with hg; omega)) (by omega),own_down (own_far hpa.o hgw (fun g hg => by injection hg with hg; omega)) (by omega)⟩,hWf⟩
end Go.Proofs.YtolaabllhibkdaaGreat
