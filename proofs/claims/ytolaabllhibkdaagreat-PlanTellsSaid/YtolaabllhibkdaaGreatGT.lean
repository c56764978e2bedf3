/- Several texts of mine in one: Plan7, Plan8. No condition. -/
import Derived.Test.YtolaabllhibkdaaGreatPlan5

/- Contract of plan.All. It makes new memory alone. -/
namespace Go.Proofs.YtolaabllhibkdaaGreat
open Go.ChangeShapes Go.WideShapes Go.ChangeAt Go.RowKit Go.Sort
set_option linter.unusedSimpArgs false
set_option linter.unusedVariables false
def runP (p:Pl) (ds:List Dr):Pl:=ds.foldl stepP p
/-- The code, and how many are done ahead of it. -/
def allQ:Pl → List Dr → Int × Nat
 | _,[] => (0,0)
 | p,d :: ds => if stepQ p d = 0 then ((allQ (stepP p d) ds).1,(allQ (stepP p d) ds).2 + 1) else (stepQ p d,0)
def allP (p:Pl) (ds:List Dr):Pl:=if (allQ p ds).1 = 0 then runP p ds else p
theorem take_snocDr {l:List Dr} {i:Nat} (h:i < l.length):l.take (i + 1) = l.take i ++ [gDr l i]:=by
 rw [List.take_succ_eq_append_getElem h,gDr_eq h]
theorem runP_next {p:Pl} {ds:List Dr} {k:Nat} (h:k < ds.length):runP p (ds.take (k + 1)) = stepP (runP p (ds.take k)) (gDr ds k):=by
 unfold runP
 rw [take_snocDr h,List.foldl_append]
 rfl
theorem allQ_all:∀ {ds:List Dr} {p:Pl},(∀ j,j < ds.length → stepQ (runP p (ds.take j)) (gDr ds j) = 0) → allQ p ds = (0,ds.length)
 | [],_,_ => rfl
 | d :: ds,p,h => by
  have h0:stepQ p d = 0:=h 0 (by simp)
  have h1:=allQ_all (ds:=ds) (p:=stepP p d) (fun j hj => h (j + 1) (by simp; omega))
  unfold allQ
  rw [if_pos h0,h1]
  rfl
theorem allQ_stop:∀ {k:Nat} {ds:List Dr} {p:Pl} {q:Int},k < ds.length → (∀ j,j < k → stepQ (runP p (ds.take j)) (gDr ds j) = 0) → stepQ (runP p (ds.take k)) (gDr ds k) = q → q ≠ 0 → allQ p ds = (q,k)
 | _,[],_,_,hk,_,_,_ => by simp at hk
 | 0,d :: ds,p,q,_,_,hq,hn => by
  have h0:stepQ p d = q:=hq
  unfold allQ
  rw [if_neg (by rw [h0]; exact hn),h0]
 | k + 1,d :: ds,p,q,hk,h,hq,hn => by
  have h0:stepQ p d = 0:=h 0 (by omega)
  have h1:=allQ_stop (k:=k) (ds:=ds) (p:=stepP p d) (q:=q) (by simpa using hk) (fun j hj => h (j + 1) (by omega)) hq hn
  unfold allQ
  rw [if_pos h0,h1]
theorem runP_right {p:Pl} (hr:p.right = true):∀ ds:List Dr,(runP p ds).right = true:=by
 intro ds
 unfold runP
 induction ds generalizing p with
 | nil => exact hr
 | cons d ds ih => exact ih (stepP_right hr)
theorem Sl.kept1 {w w':World} {K:Nat} {A:Option Addr} {n c g:Nat} {xs:List Value} (h:Sl w w.heap.size K A n c xs) (hg:w.grownBy w' (some g)) (hb:∀ ad,A = some ad → 0 < n → ad.block ≠ g):Sl w' w'.heap.size K A n c xs:=by
 refine ⟨?_,h.cap,h.max,h.nil⟩
 refine ⟨h.lst.1,fun hn => ?_⟩
 obtain ⟨ad,e,hlt,hc⟩:=h.lst.2 hn
 refine ⟨ad,e,Nat.lt_of_lt_of_le hlt hg.size,fun j u hj => ?_⟩
 rw [World.cell?_of_block (w:=w) (hg.block _ (by rw [add_block]; exact hlt) (by rw [add_block]; exact fun e2 => hb ad e hn (by injection e2)))]
 exact hc j u hj
theorem PlAt.kept1 {w w':World} {g:Nat} {A1:Option Addr} {n1 c1:Nat} {A:Option Addr} {n c:Nat} {p:Pl} (h:PlAt w A1 n1 c1 A n c p) (hg:w.grownBy w' (some g)) (ha:Apart g A1 n1 A n):PlAt w' A1 n1 c1 A n c p:=⟨h.l1,h.l,h.b1,h.b,h.s1.kept1 hg ha.1,h.s.kept1 hg ha.2⟩
theorem PlAt.apart {w:World} {b:Nat} {A1:Option Addr} {n1 c1:Nat} {A:Option Addr} {n c:Nat} {p:Pl} (h:PlAt w A1 n1 c1 A n c p) (hb:w.heap.size ≤ b):Apart b A1 n1 A n:=by
 refine ⟨fun ad e hn e2 => ?_,fun ad e hn e2 => ?_⟩
 ·obtain ⟨ad',e',hlt,_⟩:=h.s1.lst.2 hn
  rw [e] at e'; injection e' with e'; subst e'; omega
 ·obtain ⟨ad',e',hlt,_⟩:=h.s.lst.2 hn
  rw [e] at e'; injection e' with e'; subst e'; omega
def AllRet (p:Pl) (ds:List Dr) (w:World) (e:Ending) (w':World):Prop:=
 ∃ A2 n2 c2 A3 n3 c3,e = .returned (.tuple #[.agg #[.slice A2 n2 c2,.slice A3 n3 c3,.int .i64 (allP p ds).clk,.int .i64 (allP p ds).ver],.int .i64 ((allQ p ds).2:Nat),.int .i64 (allQ p ds).1]) ∧ PlOwn w' w.heap.size A2 n2 c2 A3 n3 c3 (allP p ds) ∧ Below w.heap.size w w'
set_option maxHeartbeats 16000000 in
set_option maxRecDepth 100000 in
theorem pall_any (A1:Option Addr) (n1 c1:Nat) (A:Option Addr) (n c:Nat) (p:Pl) (Ad:Option Addr) (nd cd:Nat) (ds:List Dr) (w:World) (hd:ds.length = nd) (hnd:nd ≤ 1000000) (hwf:∀ j,j < nd → (Lit.int .i64 (gDr ds j).op).wf = true ∧ (Lit.int .i64 (gDr ds j).kd).wf = true) (h:PlAt w A1 n1 c1 A n c p) (hl:Sl w w.heap.size 13 Ad nd cd (flatDr ds)) (hr:p.right = true) :
  Calls Tryz.prog 17 #[.agg #[.slice A1 n1 c1,.slice A n c,.int .i64 p.clk,.int .i64 p.ver],.slice Ad nd cd] w (AllRet p ds w):=by
 have hB:Below w.heap.size w ((w.alloc (.cells #[.slice A1 n1 c1,.slice A n c,.int .i64 p.clk,.int .i64 p.ver] 25)).alloc (.cells #[.slice none 0 0,.slice none 0 0,.int .i64 0,.int .i64 0] 25)):=by (repeat (first | exact Below.refl _ _ | refine Below.alloc ?_ (by first | omega | (simp; done) | (simp; omega)) _ | refine Below.setCell ?_ (by first | omega | (simp; done) | (simp; omega)) _ | refine Below.drew ?_))
 have hP:=(Blok.new w 25 #[.slice A1 n1 c1,.slice A n c,.int .i64 p.clk,.int .i64 p.ver]).alloc (.cells #[.slice none 0 0,.slice none 0 0,.int .i64 0,.int .i64 0] 25)
 have hR:=Blok.new (w.alloc (.cells #[.slice A1 n1 c1,.slice A n c,.int .i64 p.clk,.int .i64 p.ver] 25)) 25 #[.slice none 0 0,.slice none 0 0,.int .i64 0,.int .i64 0]
 simp only [World.size_alloc] at hR
 have H0:=Lib.hid h
 have HL0:=Lib.hid hl
 have HD:=Lib.hid hd
 have HWF:=Lib.hid hwf
 have HRT:=Lib.hid hr
 have hs:=hB.size
 clear hd hwf hl h hr
 go_enter Tryz.func17,Tryz.ntmps17
 go_upto_region 1 with fail
 generalize (w.alloc (.cells #[.slice A1 n1 c1,.slice A n c,.int .i64 p.clk,.int .i64 p.ver] 25)).alloc (.cells #[.slice none 0 0,.slice none 0 0,.int .i64 0,.int .i64 0] 25) = w0 at *
 obtain ⟨p0,p1,p2,p3,lt_p⟩:=blok4 (show Blok _ _ _ #[.slice A1 n1 c1,.slice A n c,.int .i64 p.clk,.int .i64 p.ver] from hP)
 go_upto_region 2 with fail
 clear p0 p1 p2 p3 lt_p
 have hN:=Blok.new w0 25 #[.slice A1 n1 c1,.slice A n c,.int .i64 p.clk,.int .i64 p.ver]
 have hb:Below w0.heap.size w0 (w0.alloc (.cells #[.slice A1 n1 c1,.slice A n c,.int .i64 p.clk,.int .i64 p.ver] 25)):=by (repeat (first | exact Below.refl _ _ | refine Below.alloc ?_ (by first | omega | (simp; done) | (simp; omega)) _ | refine Below.setCell ?_ (by first | omega | (simp; done) | (simp; omega)) _ | refine Below.drew ?_))
 have hnl:w.heap.size + 1 < w0.heap.size:=hR.lt
 replace hP:=hP.below hb hP.lt
 replace hR:=hR.below hb hR.lt
 replace hB:=hB.trans (hb.mono hs)
 replace hs:=hB.size
 clear hb
 generalize w0.alloc (.cells #[.slice A1 n1 c1,.slice A n c,.int .i64 p.clk,.int .i64 p.ver] 25) = w1 at *
 generalize w0.heap.size = bN at *
 have hbNw:w.heap.size ≤ bN:=by omega
 have HP:=Lib.hid hP
 have HR:=Lib.hid hR
 have HN:=Lib.hid hN
 have HB:=Lib.hid hB
 clear hP hR hN hB hs
 go_wp2_with fail
 go_loopw [14] (fun iv wr => ∃ (k:Nat) (A2:Option Addr) (n2 c2:Nat) (A3:Option Addr) (n3 c3:Nat),iv = .int .i64 k ∧ k ≤ nd ∧ Hid (∀ j,j < k → stepQ (runP p (ds.take j)) (gDr ds j) = 0) ∧ Hid (PlAt wr A2 n2 c2 A3 n3 c3 (runP p (ds.take k))) ∧ Hid (Apart bN A2 n2 A3 n3) ∧ Below w.heap.size w wr ∧ Hid (Blok wr w.heap.size 25 #[.slice A1 n1 c1,.slice A n c,.int .i64 p.clk,.int .i64 p.ver]) ∧ Hid (Blok wr (w.heap.size + 1) 25 #[.slice none 0 0,.slice none 0 0,.int .i64 0,.int .i64 0]) ∧ Hid (Blok wr bN 25 #[.slice A2 n2 c2,.slice A3 n3 c3,.int .i64 (runP p (ds.take k)).clk,.int .i64 (runP p (ds.take k)).ver])) (fun iv _ => nd - (intOf iv).toNat)
 case atStart => exact ⟨0,A1,n1,c1,A,n,c,rfl,by omega,(fun j hj => by omega),H0.out.up HB.out,H0.out.apart hbNw,HB.out,HP.out,HR.out,HN.out⟩
 case round =>
  clear HP HR HN HB
  obtain ⟨k,A2,n2,c2,A3,n3,c3,rfl,hk,HQ,HPA,HAP,hB,HP,HR,HN⟩:=hrel
  have hs:=hB.size
  have hP:=HP.out
  have hR:=HR.out
  have hN:=HN.out
  have hPA:=HPA.out
  clear HP HR HN HPA
  by_cases hkn:k < nd
  ·have hl:=HL0.out.up hB
   obtain ⟨ad,rfl,hab,c0,c1',c2',c3',c4,c5,c6,c7,c8,c9,c10,c11,c12⟩:=hl.lst.atDr HD.out hkn
   obtain ⟨d,hdd⟩:∃ d,gDr ds k = d:=⟨_,rfl⟩
   rw [hdd] at c0 c1' c2' c3' c4 c5 c6 c7 c8 c9 c10 c11 c12
   have HDD:=Lib.hid hdd
   have hwd:=HWF.out k hkn
   rw [hdd] at hwd
   have hnx:=runP_next (p:=p) (ds:=ds) (k:=k) (by rw [HD.out]; exact hkn)
   rw [hdd] at hnx
   have HNX:=Lib.hid hnx
   have hrr:=runP_right HRT.out (ds.take k)
   obtain ⟨pk,hpk⟩:∃ x,runP p (ds.take k) = x:=⟨_,rfl⟩
   rw [hpk] at hN hPA hrr
   have HPK:=Lib.hid hpk
   clear hdd hnx hpk
   go_upto_region 5 with fail
   have hD:=Blok.new wr 37 #[.int .i64 d.op,.int .i64 d.kd,.int .i64 d.id,.int .i64 d.fr,.int .i64 d.tn,.int .i64 d.st,.int .i64 d.en,.int .i64 d.rt,.int .i64 d.rf,.int .i64 d.rn,.int .i64 d.rs,.int .i64 d.re,.int .i64 d.ro]
   have hb:Below wr.heap.size wr (wr.alloc (.cells #[.int .i64 d.op,.int .i64 d.kd,.int .i64 d.id,.int .i64 d.fr,.int .i64 d.tn,.int .i64 d.st,.int .i64 d.en,.int .i64 d.rt,.int .i64 d.rf,.int .i64 d.rn,.int .i64 d.rs,.int .i64 d.re,.int .i64 d.ro] 37)):=by (repeat (first | exact Below.refl _ _ | refine Below.alloc ?_ (by first | omega | (simp; done) | (simp; omega)) _ | refine Below.setCell ?_ (by first | omega | (simp; done) | (simp; omega)) _ | refine Below.drew ?_))
   clear c0 c1' c2' c3' c4 c5 c6 c7 c8 c9 c10 c11 c12 hl
   replace hPA:=hPA.up hb
   replace hP:=hP.below hb hP.lt
   replace hR:=hR.below hb hR.lt
   replace hN:=hN.below hb hN.lt
   replace hB:=hB.trans (hb.mono hs)
   replace hs:=hB.size
   clear hb
   generalize wr.alloc (.cells #[.int .i64 d.op,.int .i64 d.kd,.int .i64 d.id,.int .i64 d.fr,.int .i64 d.tn,.int .i64 d.st,.int .i64 d.en,.int .i64 d.rt,.int .i64 d.rf,.int .i64 d.rn,.int .i64 d.rs,.int .i64 d.re,.int .i64 d.ro] 37) = w2 at *
   generalize wr.heap.size = bD at *
   obtain ⟨y0,y1,y2,y3,y4,y5,y6,y7,y8,y9,y10,y11,y12,lt_y⟩:=blok13 hD
   obtain ⟨n_0,n_1,n_2,n_3,lt_n_⟩:=blok4 (show Blok _ _ _ #[.slice A2 n2 c2,.slice A3 n3 c3,.int .i64 pk.clk,.int .i64 pk.ver] from hN)
   obtain ⟨nf_0,nf_1,nf_2,nf_3⟩:=free4 hN
   have HPA:=Lib.hid hPA
   clear hPA
   go_wp2_with fail
   clear y0 y1 y2 y3 y4 y5 y6 y7 y8 y9 y10 y11 y12 lt_y
   clear n_0 n_1 n_2 n_3 nf_0 nf_1 nf_2 nf_3 lt_n_
   refine (pstep_any A2 n2 c2 A3 n3 c3 pk d w2 hwd.1 hwd.2 HPA.out hrr).mono ?_
   rintro e w3 ⟨A4,n4,c4,A5,n5,c5,rfl,h4,hb,hapf,_⟩
   have hbn2:bN < w2.heap.size:=hN.lt
   clear HPA hD
   replace hP:=hP.below hb hP.lt
   replace hR:=hR.below hb hR.lt
   replace hN:=hN.below hb hN.lt
   replace hB:=hB.trans (hb.mono hs)
   replace hs:=hB.size
   clear hb
   obtain ⟨q,hq⟩:∃ x,stepQ pk d = x:=⟨_,rfl⟩
   obtain ⟨pp,hpp⟩:∃ x,stepP pk d = x:=⟨_,rfl⟩
   rw [hpp] at h4
   rw [hq,hpp]
   have HSQ:=Lib.hid hq
   have HSP:=Lib.hid hpp
   have H4:=Lib.hid h4
   clear hq hpp h4
   obtain ⟨n_0,n_1,n_2,n_3,lt_n_⟩:=blok4 (show Blok _ _ _ #[.slice A2 n2 c2,.slice A3 n3 c3,.int .i64 pk.clk,.int .i64 pk.ver] from hN)
   obtain ⟨nf_0,nf_1,nf_2,nf_3⟩:=free4 hN
   go_upto_region 7 with fail
   clear n_0 n_1 n_2 n_3 nf_0 nf_1 nf_2 nf_3 lt_n_
   have hgf:w3.grownBy ((((w3.setCell ⟨bN,0,none⟩ (.slice A4 n4 c4)).setCell ⟨bN,1,none⟩ (.slice A5 n5 c5)).setCell ⟨bN,2,none⟩ (.int .i64 pp.clk)).setCell ⟨bN,3,none⟩ (.int .i64 pp.ver)) (some bN):=grown_trans (grown_trans (grown_trans (grown_set _ _ _) (grown_set _ _ _)) (grown_set _ _ _)) (grown_set _ _ _)
   have hap:=Lib.hid (hapf bN hbn2 HAP.out)
   have h5:=Lib.hid (H4.out.kept1 hgf hap.out)
   clear hgf H4 hapf
   replace hN:=hN.set_ 0 (.slice A4 n4 c4)
   replace hP:=hP.far (p:=⟨bN,0,none⟩) (by show w.heap.size ≠ bN; omega) (.slice A4 n4 c4)
   replace hR:=hR.far (p:=⟨bN,0,none⟩) (by show w.heap.size + 1 ≠ bN; omega) (.slice A4 n4 c4)
   replace hB:=hB.setCell (p:=⟨bN,0,none⟩) (by show w.heap.size ≤ bN; omega) (.slice A4 n4 c4)
   replace hN:=hN.set_ 1 (.slice A5 n5 c5)
   replace hP:=hP.far (p:=⟨bN,1,none⟩) (by show w.heap.size ≠ bN; omega) (.slice A5 n5 c5)
   replace hR:=hR.far (p:=⟨bN,1,none⟩) (by show w.heap.size + 1 ≠ bN; omega) (.slice A5 n5 c5)
   replace hB:=hB.setCell (p:=⟨bN,1,none⟩) (by show w.heap.size ≤ bN; omega) (.slice A5 n5 c5)
   replace hN:=hN.set_ 2 (.int .i64 pp.clk)
   replace hP:=hP.far (p:=⟨bN,2,none⟩) (by show w.heap.size ≠ bN; omega) (.int .i64 pp.clk)
   replace hR:=hR.far (p:=⟨bN,2,none⟩) (by show w.heap.size + 1 ≠ bN; omega) (.int .i64 pp.clk)
   replace hB:=hB.setCell (p:=⟨bN,2,none⟩) (by show w.heap.size ≤ bN; omega) (.int .i64 pp.clk)
   replace hN:=hN.set_ 3 (.int .i64 pp.ver)
   replace hP:=hP.far (p:=⟨bN,3,none⟩) (by show w.heap.size ≠ bN; omega) (.int .i64 pp.ver)
   replace hR:=hR.far (p:=⟨bN,3,none⟩) (by show w.heap.size + 1 ≠ bN; omega) (.int .i64 pp.ver)
   replace hB:=hB.setCell (p:=⟨bN,3,none⟩) (by show w.heap.size ≤ bN; omega) (.int .i64 pp.ver)
   replace hs:=hB.size
   generalize ((((w3).setCell ⟨bN,0,none⟩ (.slice A4 n4 c4)).setCell ⟨bN,1,none⟩ (.slice A5 n5 c5)).setCell ⟨bN,2,none⟩ (.int .i64 pp.clk)).setCell ⟨bN,3,none⟩ (.int .i64 pp.ver) = w4 at *
   have hN2:Blok w4 bN 25 #[.slice A4 n4 c4,.slice A5 n5 c5,.int .i64 pp.clk,.int .i64 pp.ver]:=by have h:=hN; simpa using h
   clear hN
   by_cases hq0:q = 0
   ·subst hq0
    have g1:((0:Int) != 0) = false:=by simp
    have HST:Hid (∀ j,j < k + 1 → stepQ (runP p (ds.take j)) (gDr ds j) = 0):=by
     intro j hj
     by_cases hjk:j = k
     ·subst hjk; rw [HPK.out,HDD.out]; exact HSQ.out
     ·exact HQ.out j (by omega)
    have HRK:Hid (runP p (ds.take (k + 1)) = pp):=by
     show runP p (ds.take (k + 1)) = pp
     rw [HNX.out,HPK.out,HSP.out]
    have HN:=Lib.hid hN2
    have HP:=Lib.hid hP
    have HR:=Lib.hid hR
    clear hN2 hP hR
    go_wp2_with fail
    go_roundw
    case rel => exact ⟨k + 1,A4,n4,c4,A5,n5,c5,by go_num,by omega,HST,by rw [HRK.out]; exact h5,hap,hB,HP,HR,by rw [HRK.out]; exact HN⟩
    case measure => simp [intOf]; omega
   ·have g1:(q != 0) = true:=by simp [hq0]
    have haq:allQ p ds = (q,k):=allQ_stop (by rw [HD.out]; exact hkn) HQ.out (by rw [HPK.out,HDD.out]; exact HSQ.out) hq0
    have hap2:allP p ds = p:=by unfold allP; rw [haq]; exact if_neg hq0
    have HAQ:=Lib.hid haq
    have HA2:=Lib.hid hap2
    have h0:=H0.out.up hB
    have hrl4:w.heap.size + 1 < w4.heap.size:=hR.lt
    clear haq hap2 h5 hN2 hq0
    obtain ⟨p0,p1,p2,p3,lt_p⟩:=blok4 (show Blok _ _ _ #[.slice A1 n1 c1,.slice A n c,.int .i64 p.clk,.int .i64 p.ver] from hP)
    go_wp2_with fail
    clear p0 p1 p2 p3 lt_p
    refine (pcopy_any A1 n1 c1 A n c p w4 h0).mono ?_
    rintro e w5 ⟨A6,c6,A7,c7,rfl,ho,hb⟩
    clear h0
    replace hP:=hP.below hb hP.lt
    replace hR:=hR.below hb hR.lt
    replace hB:=hB.trans (hb.mono hs)
    replace hs:=hB.size
    clear hb
    obtain ⟨hl1,hl2,hb1,hb2,ho1,ho2⟩:=ho
    have HL1:=Lib.hid hl1
    have HL2:=Lib.hid hl2
    clear hl1 hl2
    obtain ⟨r0,r1,r2,r3,lt_x⟩:=blok4 hR
    obtain ⟨f_0,f_1,f_2,f_3⟩:=free4 hR
    have HX:=Lib.hid hR
    clear hR
    go_wp2_with fail
    have hX:=HX.out
    clear r0 r1 r2 r3
    obtain ⟨hF,hWf,hgw⟩:=ret4 (show Blok _ _ _ #[_,_,_,_] from hX) hB (show w.heap.size ≤ (w.heap.size + 1) by first | exact Nat.le_refl _ | omega) (.slice A6 n1 c6) (.slice A7 n c7) (.int .i64 p.clk) (.int .i64 p.ver)
    have hlF:=hF.lt
    generalize (((w5.setCell ⟨(w.heap.size + 1),0,none⟩ (.slice A6 n1 c6)).setCell ⟨(w.heap.size + 1),1,none⟩ (.slice A7 n c7)).setCell ⟨(w.heap.size + 1),2,none⟩ (.int .i64 p.clk)).setCell ⟨(w.heap.size + 1),3,none⟩ (.int .i64 p.ver) = wf at *
    obtain ⟨r0,r1,r2,r3,_⟩:=blok4 hF
    refine bodyPost_ret (v:=.tuple #[.agg #[.slice A6 n1 c6,.slice A7 n c7,.int .i64 p.clk,.int .i64 p.ver],.int .i64 k,.int .i64 q]) (by simp [results,Tryz.results17,go_sem,r0,r1,r2,r3,hlF]) rfl ?_
    have hof:=own_far ho1 hgw (fun g hg => by injection hg with hg; omega)
    have hocf:=own_far ho2 hgw (fun g hg => by injection hg with hg; omega)
    refine ⟨A6,n1,c6,A7,n,c7,by rw [HA2.out,HAQ.out],by rw [HA2.out]; exact ⟨HL1.out,HL2.out,hb1,hb2,own_down hof (by omega),own_down hocf (by omega)⟩,hWf⟩
  ·obtain rfl:k = nd:=by omega
   have hrl4:w.heap.size + 1 < wr.heap.size:=hR.lt
   have htk:ds.take k = ds:=List.take_of_length_le (by rw [HD.out]; omega)
   have haq:allQ p ds = (0,k):=by
    rw [← HD.out]
    exact allQ_all (fun j hj => HQ.out j (by rw [← HD.out]; exact hj))
   have hap2:allP p ds = runP p (ds.take k):=by unfold allP; rw [haq,htk]; exact if_pos rfl
   obtain ⟨pk,hpk⟩:∃ x,runP p (ds.take k) = x:=⟨_,rfl⟩
   rw [hpk] at hN hPA hap2
   have HAQ:=Lib.hid haq
   have HA2:=Lib.hid hap2
   clear htk haq hap2 hpk
   obtain ⟨n_0,n_1,n_2,n_3,lt_n_⟩:=blok4 (show Blok _ _ _ #[.slice A2 n2 c2,.slice A3 n3 c3,.int .i64 pk.clk,.int .i64 pk.ver] from hN)
   obtain ⟨nf_0,nf_1,nf_2,nf_3⟩:=free4 hN
   have HPA:=Lib.hid hPA
   clear hPA
   go_wp2_with fail
   clear n_0 n_1 n_2 n_3 nf_0 nf_1 nf_2 nf_3 lt_n_
   refine (pcopy_any A2 n2 c2 A3 n3 c3 pk wr HPA.out).mono ?_
   rintro e w5 ⟨A6,c6,A7,c7,rfl,ho,hb⟩
   clear HPA
   replace hP:=hP.below hb hP.lt
   replace hR:=hR.below hb hR.lt
   replace hB:=hB.trans (hb.mono hs)
   replace hs:=hB.size
   clear hb
   obtain ⟨hl1,hl2,hb1,hb2,ho1,ho2⟩:=ho
   have HL1:=Lib.hid hl1
   have HL2:=Lib.hid hl2
   clear hl1 hl2
   obtain ⟨r0,r1,r2,r3,lt_x⟩:=blok4 hR
   obtain ⟨f_0,f_1,f_2,f_3⟩:=free4 hR
   have HX:=Lib.hid hR
   clear hR
   go_wp2_with fail
   have hX:=HX.out
   clear r0 r1 r2 r3
   obtain ⟨hF,hWf,hgw⟩:=ret4 (show Blok _ _ _ #[_,_,_,_] from hX) hB (show w.heap.size ≤ (w.heap.size + 1) by first | exact Nat.le_refl _ | omega) (.slice A6 n2 c6) (.slice A7 n3 c7) (.int .i64 pk.clk) (.int .i64 pk.ver)
   have hlF:=hF.lt
   generalize (((w5.setCell ⟨(w.heap.size + 1),0,none⟩ (.slice A6 n2 c6)).setCell ⟨(w.heap.size + 1),1,none⟩ (.slice A7 n3 c7)).setCell ⟨(w.heap.size + 1),2,none⟩ (.int .i64 pk.clk)).setCell ⟨(w.heap.size + 1),3,none⟩ (.int .i64 pk.ver) = wf at *
   obtain ⟨r0,r1,r2,r3,_⟩:=blok4 hF
   refine bodyPost_ret (v:=.tuple #[.agg #[.slice A6 n2 c6,.slice A7 n3 c7,.int .i64 pk.clk,.int .i64 pk.ver],.int .i64 k,.int .i64 0]) (by simp [results,Tryz.results17,go_sem,r0,r1,r2,r3,hlF]) rfl ?_
   have hof:=own_far ho1 hgw (fun g hg => by injection hg with hg; omega)
   have hocf:=own_far ho2 hgw (fun g hg => by injection hg with hg; omega)
   refine ⟨A6,n2,c6,A7,n3,c7,by rw [HA2.out,HAQ.out],by rw [HA2.out]; exact ⟨HL1.out,HL2.out,hb1,hb2,own_down hof (by omega),own_down hocf (by omega)⟩,hWf⟩
end Go.Proofs.YtolaabllhibkdaaGreat

/- Contract of plan.List. It makes new memory alone. -/

namespace Go.Proofs.YtolaabllhibkdaaGreat
open Go.ChangeShapes Go.WideShapes Go.ChangeAt Go.RowKit Go.Sort
set_option linter.unusedSimpArgs false
set_option linter.unusedVariables false
theorem take_snocRg {l:List Rg} {i:Nat} (h:i < l.length):l.take (i + 1) = l.take i ++ [gRg l i]:=by
 rw [List.take_succ_eq_append_getElem h,gRg_eq h]
theorem take_snocCo {l:List Co} {i:Nat} (h:i < l.length):l.take (i + 1) = l.take i ++ [gCo l i]:=by
 rw [List.take_succ_eq_append_getElem h,gCo_eq h]
def mkR (x:Rg):Dr:=⟨1,2,0,0,0,0,0,0,x.fr,x.tn,x.st,x.en,x.ow⟩
def mkC (x:Co):Dr:=⟨1,1,x.id,x.fr,x.tn,x.st,x.en,x.rt,0,0,0,0,0⟩
def listP (p:Pl):List Dr:=p.rs.map mkR ++ p.cs.map mkC
theorem flatDr_one_ (y:Dr):flatDr [y] = [.int .i64 y.op,.int .i64 y.kd,.int .i64 y.id,.int .i64 y.fr,.int .i64 y.tn,.int .i64 y.st,.int .i64 y.en,.int .i64 y.rt,.int .i64 y.rf,.int .i64 y.rn,.int .i64 y.rs,.int .i64 y.re,.int .i64 y.ro]:=rfl
set_option maxHeartbeats 8000000 in
set_option maxRecDepth 100000 in
theorem plist_any (A1:Option Addr) (n1 c1:Nat) (A:Option Addr) (n c:Nat) (p:Pl) (w:World) (h:PlAt w A1 n1 c1 A n c p) :
  Calls Tryz.prog 20 #[.agg #[.slice A1 n1 c1,.slice A n c,.int .i64 p.clk,.int .i64 p.ver]] w fun e w' => ∃ v,e = .returned v ∧ w'.ownsRow w.heap.size 37 13 v (n + n1) (flatDr (listP p)) ∧ Below w.heap.size w w':=by
 obtain ⟨i0,hi0,hz0,hz1,hz2⟩:=info_parts infoDr
 have hB:Below w.heap.size w (w.alloc (.cells #[.slice A1 n1 c1,.slice A n c,.int .i64 p.clk,.int .i64 p.ver] 25)):=by (repeat (first | exact Below.refl _ _ | refine Below.alloc ?_ (by first | omega | (simp; done) | (simp; omega)) _ | refine Below.setCell ?_ (by first | omega | (simp; done) | (simp; omega)) _ | refine Below.drew ?_))
 have hP:=Blok.new w 25 #[.slice A1 n1 c1,.slice A n c,.int .i64 p.clk,.int .i64 p.ver]
 have HL1:=Lib.hid h.l
 have HL2:=Lib.hid h.l1
 have hb1:=h.b1
 have hb:=h.b
 have H0:=Lib.hid h
 have p1:(w.alloc (.cells #[.slice A1 n1 c1,.slice A n c,.int .i64 p.clk,.int .i64 p.ver] 25)).cell? ⟨w.heap.size,1,none⟩ = some (.slice A n c):=hP.cell 1
 have lt_p:=hP.lt
 have HP:=Lib.hid hP
 have HB:=Lib.hid hB
 have hs0:=hB.size
 clear h hB hP
 go_enter Tryz.func20,Tryz.ntmps20
 go_upto_region 2 with fail
 generalize w.alloc (.cells #[.slice A1 n1 c1,.slice A n c,.int .i64 p.clk,.int .i64 p.ver] 25) = w0 at *
 go_wp2_with fail
 clear p1 lt_p
 go_loopw [3,11] (fun ev iv wr => ∃ (es:List Dr) (m i:Nat),iv = .int .i64 i ∧ i ≤ n ∧ m ≤ i ∧ Hid (es.length = m) ∧ Hid (es = (p.rs.take i).map mkR) ∧ wr.ownsRow (w.heap.size + 1) 37 13 ev m (flatDr es) ∧ Below w.heap.size w wr ∧ Hid (Blok wr w.heap.size 25 #[.slice A1 n1 c1,.slice A n c,.int .i64 p.clk,.int .i64 p.ver])) (fun ev iv _ => n - (intOf iv).toNat)
 case atStart => exact ⟨[],0,0,rfl,by omega,by omega,rfl,rfl,World.ownsRow_nil _ _ _ _,HB.out,HP.out⟩
 case round =>
  clear HP HB hs0
  obtain ⟨es,m,i,rfl,hi,hm,HE,HF,hown,hB,HP⟩:=hrel
  have hs:=hB.size
  obtain ⟨Ae,ce,rfl⟩:=slice_of_own hown
  have hltp:=HP.out.lt
  by_cases hin:i < n
  ·have hl:=H0.out.s.up hB
   obtain ⟨ad,rfl,hab,c0',c1',c2',c3',c4'⟩:=hl.lst.atRg HL1.out hin
   have hin':i < p.rs.length:=by rw [HL1.out]; exact hin
   have hst:=take_snocRg hin'
   obtain ⟨x,hx⟩:∃ x,gRg p.rs i = x:=⟨_,rfl⟩
   rw [hx] at c0' c1' c2' c3' c4' hst
   have HST:=Lib.hid hst
   have hX:=Blok.new wr 35 #[.int .i64 x.fr,.int .i64 x.tn,.int .i64 x.st,.int .i64 x.en,.int .i64 x.ow]
   have hBa:Below wr.heap.size wr (wr.alloc (.cells #[.int .i64 x.fr,.int .i64 x.tn,.int .i64 x.st,.int .i64 x.en,.int .i64 x.ow] 35)):=by (repeat (first | exact Below.refl _ _ | refine Below.alloc ?_ (by first | omega | (simp; done) | (simp; omega)) _ | refine Below.setCell ?_ (by first | omega | (simp; done) | (simp; omega)) _ | refine Below.drew ?_))
   have hB2:=hB.trans (hBa.mono hs)
   have hP2:=HP.out.below hBa HP.out.lt
   have hown2:=own_below hown hBa
   clear hx hst
   go_upto_region 5 with fail
   clear c0' c1' c2' c3' c4' hBa hB hown HP hl
   generalize wr.alloc (.cells #[.int .i64 x.fr,.int .i64 x.tn,.int .i64 x.st,.int .i64 x.en,.int .i64 x.ow] 35) = wx at *
   generalize wr.heap.size = bb at *
   have x0:wx.cell? ⟨bb,0,none⟩ = some (.int .i64 x.fr):=hX.cell 0
   have x1:wx.cell? ⟨bb,1,none⟩ = some (.int .i64 x.tn):=hX.cell 1
   have x2:wx.cell? ⟨bb,2,none⟩ = some (.int .i64 x.st):=hX.cell 2
   have x3:wx.cell? ⟨bb,3,none⟩ = some (.int .i64 x.en):=hX.cell 3
   have x4:wx.cell? ⟨bb,4,none⟩ = some (.int .i64 x.ow):=hX.cell 4
   have lt_x:=hX.lt
   have hsx:=hB2.size
   have HP2:=Lib.hid hP2
   clear hP2
   go_wp2_with (first | (at_builtin; refine wpList_append_own _ rfl _ _ 31 rfl (w.heap.size + 1) 37 i0 _ 13 104 Tryz.underlying31 hi0 hz0 hz1 hz2 rfl (by decide) _ _ _ rfl (hown2.alloc _) ⟨wx.heap.size,0,none⟩ 1 1 [.int .i64 1,.int .i64 2,.int .i64 0,.int .i64 0,.int .i64 0,.int .i64 0,.int .i64 0,.int .i64 0,.int .i64 x.fr,.int .i64 x.tn,.int .i64 x.st,.int .i64 x.en,.int .i64 x.ow] rfl rfl (by exact lit_cells wx #[.int .i64 1,.int .i64 2,.int .i64 0,.int .i64 0,.int .i64 0,.int .i64 0,.int .i64 0,.int .i64 0,.int .i64 x.fr,.int .i64 x.tn,.int .i64 x.st,.int .i64 x.en,.int .i64 x.ow] _ _ rfl) (by simp [Value.oneCell']) (by unfold maxLen; omega) (by omega) (by simp; omega) ?_; intro v' w3 hown' hgrow3 hnil3; clear hnil3))
   have hbN:Below w.heap.size w w3:=(hB2.alloc hsx _).grown hgrow3 (by simp; omega) (fun q hq => by have:=(hown2.lt q hq).1; omega)
   have hPN:=Lib.hid ((HP2.out.alloc (.cells #[.int .i64 1,.int .i64 2,.int .i64 0,.int .i64 0,.int .i64 0,.int .i64 0,.int .i64 0,.int .i64 0,.int .i64 x.fr,.int .i64 x.tn,.int .i64 x.st,.int .i64 x.en,.int .i64 x.ow] 37)).grown hgrow3 (fun e => by have:=(hown2.lt w.heap.size e.symm).1; omega))
   have HNX:Hid (es ++ [mkR x] = (p.rs.take (i + 1)).map mkR):=by
    show es ++ [mkR x] = (p.rs.take (i + 1)).map mkR
    rw [HST.out,HF.out]; simp
   clear hgrow3 x0 x1 x2 x3 x4 lt_x hX
   go_roundw
   case rel => exact ⟨es ++ [mkR x],m + 1,i + 1,by go_num,by omega,by omega,by simp [Hid,HE.out],HNX,(by rw [flatDr_append,flatDr_one_]; exact hown'),hbN,hPN⟩
   case measure => simp [intOf]; omega
  ·obtain rfl:n = i:=by omega
   have hF2:es = p.rs.map mkR:=by rw [HF.out,List.take_of_length_le (by rw [HL1.out]; omega)]
   have HFX:Hid (es = p.rs.map mkR ++ (p.cs.take 0).map mkC):=by show es = _; rw [hF2]; simp
   have HB:=Lib.hid hB
   have hs0:=hB.size
   have p0:wr.cell? ⟨w.heap.size,0,none⟩ = some (.slice A1 n1 c1):=HP.out.cell 0
   have lt_p:=HP.out.lt
   clear hB hF2 hs
   go_wp2_with fail
   clear p0 lt_p
   go_loopw [3,24] (fun ev iv wr => ∃ (es:List Dr) (m i:Nat),iv = .int .i64 i ∧ i ≤ n1 ∧ m ≤ n + i ∧ Hid (es.length = m) ∧ Hid (es = p.rs.map mkR ++ (p.cs.take i).map mkC) ∧ wr.ownsRow (w.heap.size + 1) 37 13 ev m (flatDr es) ∧ Below w.heap.size w wr ∧ Hid (Blok wr w.heap.size 25 #[.slice A1 n1 c1,.slice A n c,.int .i64 p.clk,.int .i64 p.ver])) (fun ev iv _ => n1 - (intOf iv).toNat)
   case atStart => exact ⟨es,m,0,rfl,by omega,by omega,HE,HFX,hown,HB.out,HP⟩
   case round =>
    clear hown HP HB HE HF HFX hs0
    obtain ⟨es,m,i,rfl,hi,hm,HE,HF,hown,hB,HP⟩:=hrel
    have hs:=hB.size
    obtain ⟨Ae,ce,rfl⟩:=slice_of_own hown
    have hltp:=HP.out.lt
    by_cases hin:i < n1
    ·have hl:=H0.out.s1.up hB
     obtain ⟨ad,rfl,hab,c0',c1',c2',c3',c4',c5'⟩:=hl.lst.atCo HL2.out hin
     have hin':i < p.cs.length:=by rw [HL2.out]; exact hin
     have hst:=take_snocCo hin'
     obtain ⟨x,hx⟩:∃ x,gCo p.cs i = x:=⟨_,rfl⟩
     rw [hx] at c0' c1' c2' c3' c4' c5' hst
     have HST:=Lib.hid hst
     have hX:=Blok.new wr 33 #[.int .i64 x.id,.int .i64 x.fr,.int .i64 x.tn,.int .i64 x.st,.int .i64 x.en,.int .i64 x.rt]
     have hBa:Below wr.heap.size wr (wr.alloc (.cells #[.int .i64 x.id,.int .i64 x.fr,.int .i64 x.tn,.int .i64 x.st,.int .i64 x.en,.int .i64 x.rt] 33)):=by (repeat (first | exact Below.refl _ _ | refine Below.alloc ?_ (by first | omega | (simp; done) | (simp; omega)) _ | refine Below.setCell ?_ (by first | omega | (simp; done) | (simp; omega)) _ | refine Below.drew ?_))
     have hB2:=hB.trans (hBa.mono hs)
     have hP2:=HP.out.below hBa HP.out.lt
     have hown2:=own_below hown hBa
     clear hx hst
     go_upto_region 10 with fail
     clear c0' c1' c2' c3' c4' c5' hBa hB hown HP hl
     generalize wr.alloc (.cells #[.int .i64 x.id,.int .i64 x.fr,.int .i64 x.tn,.int .i64 x.st,.int .i64 x.en,.int .i64 x.rt] 33) = wx at *
     generalize wr.heap.size = bb at *
     have x0:wx.cell? ⟨bb,0,none⟩ = some (.int .i64 x.id):=hX.cell 0
     have x1:wx.cell? ⟨bb,1,none⟩ = some (.int .i64 x.fr):=hX.cell 1
     have x2:wx.cell? ⟨bb,2,none⟩ = some (.int .i64 x.tn):=hX.cell 2
     have x3:wx.cell? ⟨bb,3,none⟩ = some (.int .i64 x.st):=hX.cell 3
     have x4:wx.cell? ⟨bb,4,none⟩ = some (.int .i64 x.en):=hX.cell 4
     have x5:wx.cell? ⟨bb,5,none⟩ = some (.int .i64 x.rt):=hX.cell 5
     have lt_x:=hX.lt
     have hsx:=hB2.size
     have HP2:=Lib.hid hP2
     clear hP2
     go_wp2_with (first | (at_builtin; refine wpList_append_own _ rfl _ _ 31 rfl (w.heap.size + 1) 37 i0 _ 13 104 Tryz.underlying31 hi0 hz0 hz1 hz2 rfl (by decide) _ _ _ rfl (hown2.alloc _) ⟨wx.heap.size,0,none⟩ 1 1 [.int .i64 1,.int .i64 1,.int .i64 x.id,.int .i64 x.fr,.int .i64 x.tn,.int .i64 x.st,.int .i64 x.en,.int .i64 x.rt,.int .i64 0,.int .i64 0,.int .i64 0,.int .i64 0,.int .i64 0] rfl rfl (by exact lit_cells wx #[.int .i64 1,.int .i64 1,.int .i64 x.id,.int .i64 x.fr,.int .i64 x.tn,.int .i64 x.st,.int .i64 x.en,.int .i64 x.rt,.int .i64 0,.int .i64 0,.int .i64 0,.int .i64 0,.int .i64 0] _ _ rfl) (by simp [Value.oneCell']) (by unfold maxLen; omega) (by omega) (by simp; omega) ?_; intro v' w3 hown' hgrow3 hnil3; clear hnil3))
     have hbN:Below w.heap.size w w3:=(hB2.alloc hsx _).grown hgrow3 (by simp; omega) (fun q hq => by have:=(hown2.lt q hq).1; omega)
     have hPN:=Lib.hid ((HP2.out.alloc (.cells #[.int .i64 1,.int .i64 1,.int .i64 x.id,.int .i64 x.fr,.int .i64 x.tn,.int .i64 x.st,.int .i64 x.en,.int .i64 x.rt,.int .i64 0,.int .i64 0,.int .i64 0,.int .i64 0,.int .i64 0] 37)).grown hgrow3 (fun e => by have:=(hown2.lt w.heap.size e.symm).1; omega))
     have HNX:Hid (es ++ [mkC x] = p.rs.map mkR ++ (p.cs.take (i + 1)).map mkC):=by
      show es ++ [mkC x] = p.rs.map mkR ++ (p.cs.take (i + 1)).map mkC
      rw [HST.out,HF.out]; simp
     clear hgrow3 x0 x1 x2 x3 x4 x5 lt_x hX
     go_roundw
     case rel => exact ⟨es ++ [mkC x],m + 1,i + 1,by go_num,by omega,by omega,by simp [Hid,HE.out],HNX,(by rw [flatDr_append,flatDr_one_]; exact hown'),hbN,hPN⟩
     case measure => simp [intOf]; omega
    ·obtain rfl:n1 = i:=by omega
     have hke:es.length = m:=HE.out
     have hcat:es = listP p:=by rw [HF.out,List.take_of_length_le (by rw [HL2.out]; omega)]; rfl
     have hml:m = n + n1:=by rw [← hke,hcat]; unfold listP; simp [HL1.out,HL2.out]
     have HC:=Lib.hid hcat
     have HM:=Lib.hid hml
     clear hcat hml hke
     go_wp2_with fail
     go_ret
     exact ⟨_,rfl,by rw [← HC.out,← HM.out]; exact own_down hown (by omega),hB⟩
end Go.Proofs.YtolaabllhibkdaaGreat
