/- Several texts of mine in one: St3, St4. No condition. -/
import Derived.Test.YtjldgcebadojiaaGreatDoorSt2
import Derived.Test.YtjldgcebadojiaaGreatDoorGQ16
namespace Go.Proofs.YtjldgcebadojiaaGreatDoor
open Go.ChangeShapes Go.WideShapes Go.ChangeAt Go.RowKit Go.Sort
set_option linter.unusedSimpArgs false
set_option linter.unusedVariables false
def sameSB (s t:St):Bool:=samePB s.p t.p && decide (s.b = t.b)
theorem sameSB_refl (s:St):sameSB s s = true:=by unfold sameSB; rw [samePB_refl]; simp
def hasK (cs:List Co) (x:Bk):Bool:=Kc.idIn cs x.id && !overB x (Kc.foundC cs x.id)
def rightS (s:St):Bool:=s.p.right && (Kb.rightB s.b && s.b.all (hasK s.p.cs))
theorem rightS_spec {s:St}:rightS s = true ↔ s.p.right = true ∧ Kb.rightB s.b = true ∧ ∀ x ∈ s.b,hasK s.p.cs x = true:=by unfold rightS; rw [Bool.and_eq_true,Bool.and_eq_true,List.all_eq_true]
theorem psame_to (A1:Option Addr) (n1 c1:Nat) (A:Option Addr) (n c:Nat) (p:Pl) (B1:Option Addr) (m1 k1:Nat) (B:Option Addr) (m k:Nat) (q:Pl) (clk ver clk' ver':Int) (w:World) (h:PlAt w A1 n1 c1 A n c p) (h':PlAt w B1 m1 k1 B m k q) (e1:p.clk = clk) (e2:p.ver = ver) (e3:q.clk = clk') (e4:q.ver = ver') (b:Bool) (hb:samePB p q = b) :
  Calls Tryz.prog 23 #[.agg #[.slice A1 n1 c1,.slice A n c,.int .i64 clk,.int .i64 ver],.agg #[.slice B1 m1 k1,.slice B m k,.int .i64 clk',.int .i64 ver']] w fun e w' => e = .returned (.bool b) ∧ Below w.heap.size w w':=by
 subst e1 e2 e3 e4
 exact psame_any A1 n1 c1 A n c p B1 m1 k1 B m k q w h h' b hb
theorem bsame_to (A A':Option Addr) (n c n' c':Nat) (d d':List Bk) (w:World) (hd:d.length = n) (hd':d'.length = n') (hn:n ≤ 1000000) (hn':n' ≤ 1000000) (h:Sl w w.heap.size 4 A n c (flatBk d)) (h':Sl w w.heap.size 4 A' n' c' (flatBk d')) (b:Bool) (hb:decide (d = d') = b) :
  Calls Tryz.prog 32 #[.slice A n c,.slice A' n' c'] w fun e w' => e = .returned (.bool b) ∧ Below w.heap.size w w':=by
 subst hb
 exact Kb.same_any A A' n c n' c' d d' w hd hd' hn hn' h h'
theorem bright_to (A:Option Addr) (n c:Nat) (d:List Bk) (w:World) (hd:d.length = n) (hn:n ≤ 1000000) (h:Sl w w.heap.size 4 A n c (flatBk d)) (b:Bool) (hb:Kb.rightB d = b) :
  Calls Tryz.prog 37 #[.slice A n c] w fun e w' => e = .returned (.bool b) ∧ Below w.heap.size w w':=by
 subst hb
 exact Kb.right_any A n c d w hd hn h
set_option maxHeartbeats 8000000 in
set_option maxRecDepth 100000 in
theorem ssame_any (A1:Option Addr) (n1 c1:Nat) (A:Option Addr) (n c:Nat) (clk ver:Int) (Ab:Option Addr) (nb cb:Nat) (s:St) (A1':Option Addr) (n1' c1':Nat) (A':Option Addr) (n' c':Nat) (clk' ver':Int) (Ab':Option Addr) (nb' cb':Nat) (s':St) (w:World) (h:StAt w A1 n1 c1 A n c clk ver Ab nb cb s) (h':StAt w A1' n1' c1' A' n' c' clk' ver' Ab' nb' cb' s') (b:Bool) (hb:sameSB s s' = b) :
  Calls Tryz.prog 14 #[.agg #[.slice A1 n1 c1,.slice A n c,.int .i64 clk,.int .i64 ver,.slice Ab nb cb],.agg #[.slice A1' n1' c1',.slice A' n' c',.int .i64 clk',.int .i64 ver',.slice Ab' nb' cb']] w fun e w' => e = .returned (.bool b) ∧ Below w.heap.size w w':=by
 have hB:Below w.heap.size w ((w.alloc (.cells #[.slice A1 n1 c1,.slice A n c,.int .i64 clk,.int .i64 ver,.slice Ab nb cb] 28)).alloc (.cells #[.slice A1' n1' c1',.slice A' n' c',.int .i64 clk',.int .i64 ver',.slice Ab' nb' cb'] 28)):=by (repeat (first | exact Below.refl _ _ | refine Below.alloc ?_ (by first | omega | (simp; done) | (simp; omega)) _ | refine Below.setCell ?_ (by first | omega | (simp; done) | (simp; omega)) _ | refine Below.drew ?_))
 have hP:=(Blok.new w 28 #[.slice A1 n1 c1,.slice A n c,.int .i64 clk,.int .i64 ver,.slice Ab nb cb]).alloc (.cells #[.slice A1' n1' c1',.slice A' n' c',.int .i64 clk',.int .i64 ver',.slice Ab' nb' cb'] 28)
 have hQ:=Blok.new (w.alloc (.cells #[.slice A1 n1 c1,.slice A n c,.int .i64 clk,.int .i64 ver,.slice Ab nb cb] 28)) 28 #[.slice A1' n1' c1',.slice A' n' c',.int .i64 clk',.int .i64 ver',.slice Ab' nb' cb']
 simp only [World.size_alloc] at hQ
 replace h:=h.up hB
 replace h':=h'.up hB
 have hs:=hB.size
 have HBB:=Lib.hid hb
 clear hb
 go_enter Tryz.func14,Tryz.ntmps14
 go_upto_region 1 with fail
 generalize (w.alloc (.cells #[.slice A1 n1 c1,.slice A n c,.int .i64 clk,.int .i64 ver,.slice Ab nb cb] 28)).alloc (.cells #[.slice A1' n1' c1',.slice A' n' c',.int .i64 clk',.int .i64 ver',.slice Ab' nb' cb'] 28) = w0 at *
 obtain ⟨p0,p1,p2,p3,p4,lt_p⟩:=blok5 hP
 obtain ⟨q0,q1,q2,q3,q4,lt_q⟩:=blok5 hQ
 obtain ⟨b1,hb1⟩:∃ z,samePB s.p s'.p = z:=⟨_,rfl⟩
 obtain ⟨b2,hb2⟩:∃ z,decide (s.b = s'.b) = z:=⟨_,rfl⟩
 have HB1:=Lib.hid hb1
 have HB2:=Lib.hid hb2
 have HH:=Lib.hid h
 have HH':=Lib.hid h'
 clear hb1 hb2 h h'
 cases b1 with
 | false =>
  have HF:Hid (b = false):=by rw [← HBB.out]; unfold sameSB; rw [HB1.out]; rfl
  go_wp2_with fail
  refine (psame_to A1 n1 c1 A n c s.p A1' n1' c1' A' n' c' s'.p clk ver clk' ver' w0 HH.out.pl HH'.out.pl HH.out.ck HH.out.vr HH'.out.ck HH'.out.vr false HB1.out).mono ?_
  rintro e w1 ⟨rfl,hb⟩
  clear p0 p1 p2 p3 p4 q0 q1 q2 q3 q4
  go_wp2
  go_ret
  exact ⟨by rw [HF.out]; rfl,hB.trans (hb.mono hs)⟩
 | true =>
  have HF:Hid (b = b2):=by rw [← HBB.out]; unfold sameSB; rw [HB1.out,HB2.out]; rfl
  go_wp2_with fail
  refine (psame_to A1 n1 c1 A n c s.p A1' n1' c1' A' n' c' s'.p clk ver clk' ver' w0 HH.out.pl HH'.out.pl HH.out.ck HH.out.vr HH'.out.ck HH'.out.vr true HB1.out).mono ?_
  rintro e w1 ⟨rfl,hb⟩
  clear p0 p1 p2 p3 p4 q0 q1 q2 q3 q4 lt_p lt_q
  obtain ⟨p0,p1,p2,p3,p4,lt_p⟩:=blok5 (hP.below hb hP.lt)
  obtain ⟨q0,q1,q2,q3,q4,lt_q⟩:=blok5 (hQ.below hb hQ.lt)
  have HS1:=Lib.hid (HH.out.up hb)
  have HS2:=Lib.hid (HH'.out.up hb)
  have hB1:=hB.trans (hb.mono hs)
  clear hb hP hQ
  go_wp2_with fail
  refine (bsame_to Ab Ab' nb cb nb' cb' s.b s'.b w1 HS1.out.lb HS2.out.lb (by have:=HS1.out.bb; omega) (by have:=HS2.out.bb; omega) HS1.out.sb HS2.out.sb b2 HB2.out).mono ?_
  rintro e w2 ⟨rfl,hb⟩
  go_wp2
  go_ret
  exact ⟨by rw [HF.out]; rfl,hB1.trans (hb.mono hB1.size)⟩
set_option maxHeartbeats 8000000 in
set_option maxRecDepth 100000 in
theorem sright_any (A1:Option Addr) (n1 c1:Nat) (A:Option Addr) (n c:Nat) (clk ver:Int) (Ab:Option Addr) (nb cb:Nat) (s:St) (w:World) (h:StAt w A1 n1 c1 A n c clk ver Ab nb cb s) (b:Bool) (hb:rightS s = b) :
  Calls Tryz.prog 12 #[.agg #[.slice A1 n1 c1,.slice A n c,.int .i64 clk,.int .i64 ver,.slice Ab nb cb]] w fun e w' => e = .returned (.bool b) ∧ Below w.heap.size w w':=by
 have hB:Below w.heap.size w (w.alloc (.cells #[.slice A1 n1 c1,.slice A n c,.int .i64 clk,.int .i64 ver,.slice Ab nb cb] 28)):=by (repeat (first | exact Below.refl _ _ | refine Below.alloc ?_ (by first | omega | (simp; done) | (simp; omega)) _ | refine Below.setCell ?_ (by first | omega | (simp; done) | (simp; omega)) _ | refine Below.drew ?_))
 have hP:=Blok.new w 28 #[.slice A1 n1 c1,.slice A n c,.int .i64 clk,.int .i64 ver,.slice Ab nb cb]
 replace h:=h.up hB
 have hs:=hB.size
 have HBB:=Lib.hid hb
 clear hb
 go_enter Tryz.func12,Tryz.ntmps12
 go_upto_region 1 with fail
 generalize w.alloc (.cells #[.slice A1 n1 c1,.slice A n c,.int .i64 clk,.int .i64 ver,.slice Ab nb cb] 28) = w0 at *
 obtain ⟨bx,hbx⟩:∃ z,w.heap.size = z:=⟨_,rfl⟩
 rw [hbx] at hP
 try rw [hbx]
 obtain ⟨p0,p1,p2,p3,p4,lt_p⟩:=blok5 hP
 obtain ⟨b1,hb1⟩:∃ z,s.p.right = z:=⟨_,rfl⟩
 obtain ⟨b2,hb2⟩:∃ z,Kb.rightB s.b = z:=⟨_,rfl⟩
 have HB1:=Lib.hid hb1
 have HB2:=Lib.hid hb2
 have HH:=Lib.hid h
 have HBX:=Lib.hid hbx
 have hpr:rightP s.p.cs s.p.rs clk ver = b1:=by rw [← hb1]; unfold Pl.right; rw [h.ck,h.vr]
 have HPR:=Lib.hid hpr
 clear hb1 hb2 h hpr hbx
 go_wp2_with fail
 refine (pright_any A1 n1 c1 s.p.cs A n c s.p.rs clk ver w0 HH.out.pl.l1 (by have:=HH.out.pl.b1; omega) HH.out.pl.l (by have:=HH.out.pl.b; omega) HH.out.pl.s1 HH.out.pl.s b1 HPR.out).mono ?_
 rintro e w1 ⟨rfl,hb⟩
 clear p0 p1 p2 p3 p4 lt_p
 have HS1:=Lib.hid (HH.out.up hb)
 have hP1:=hP.below hb hP.lt
 have hB1:=hB.trans (hb.mono hs)
 obtain ⟨p0,p1,p2,p3,p4,lt_p⟩:=blok5 hP1
 clear hb hP hB hs
 cases b1 with
 | false =>
  have HF:Hid (b = false):=by rw [← HBB.out]; unfold rightS; rw [HB1.out]; rfl
  go_wp2
  go_ret
  exact ⟨by rw [HF.out]; rfl,hB1⟩
 | true =>
  go_wp2_with fail
  refine (bright_to Ab nb cb s.b w1 HS1.out.lb (by have:=HS1.out.bb; omega) HS1.out.sb b2 HB2.out).mono ?_
  rintro e w2 ⟨rfl,hb⟩
  clear p0 p1 p2 p3 p4 lt_p
  have HS2:=Lib.hid (HS1.out.up hb)
  have hP2:=hP1.below hb hP1.lt
  have hB2:=hB1.trans (hb.mono hB1.size)
  obtain ⟨p0,p1,p2,p3,p4,lt_p⟩:=blok5 hP2
  clear hb hP1 hB1
  cases b2 with
  | false =>
   have HF:Hid (b = false):=by rw [← HBB.out]; unfold rightS; rw [HB1.out,HB2.out]; rfl
   go_wp2
   go_ret
   exact ⟨by rw [HF.out]; rfl,hB2⟩
  | true =>
   have HP2:=Lib.hid (fun w' (hb:Below w2.heap.size w2 w') => hP2.below hb hP2.lt)
   have HU:=Lib.hid (fun w' (hb:Below w2.heap.size w2 w') => HS2.out.up hb)
   have hrc:Kc.rightC s.p.cs = true:=(Pl.right_spec.1 HB1.out).1
   have HRC:=Lib.hid hrc
   have hnb:nb ≤ 100000:=HS2.out.bb
   have hcn:n1 ≤ 100000:=HS2.out.pl.b1
   clear hP2 hrc
   go_wp2
   clear p0 p1 p2 p3 p4 lt_p
   go_loopw [20] (fun iv wr => ∃ k:Nat,k ≤ nb ∧ iv = .int .i64 k ∧ Below w2.heap.size w2 wr ∧ Hid (∀ j,j < k → hasK s.p.cs (gBk s.b j) = true)) (fun iv _ => nb - (intOf iv).toNat)
   case atStart => exact ⟨0,by omega,rfl,Below.refl _ _,fun j hj => by omega⟩
   case round =>
    obtain ⟨k,hk,rfl,hBr,HN⟩:=hrel
    have hBw:=hB2.trans (hBr.mono hB2.size)
    by_cases hkn:k < nb
    ·have hst:=HU.out _ hBr
     obtain ⟨ad,rfl,hab,c0,c1,c2,c3⟩:=hst.sb.lst.atBk hst.lb hkn
     obtain ⟨x,hx⟩:∃ x,gBk s.b k = x:=⟨_,rfl⟩
     rw [hx] at c0 c1 c2 c3
     have HX:=Lib.hid hx
     clear hx
     have hb1:Below wr.heap.size wr (wr.alloc (.cells #[.int .i64 x.id,.int .i64 x.ua,.int .i64 x.ub,.int .i64 x.uc] 50)):=(Below.refl _ _).alloc (Nat.le_refl _) _
     have hX:=Blok.new wr 50 #[.int .i64 x.id,.int .i64 x.ua,.int .i64 x.ub,.int .i64 x.uc]
     go_upto_region 6 with fail
     clear c0 c1 c2 c3
     have hB3:=hBr.trans (hb1.mono hBr.size)
     generalize wr.alloc (.cells #[.int .i64 x.id,.int .i64 x.ua,.int .i64 x.ub,.int .i64 x.uc] 50) = w3 at *
     generalize wr.heap.size = b3 at *
     have hst3:=HU.out _ hB3
     obtain ⟨p0,p1,p2,p3,p4,lt_p⟩:=blok5 (HP2.out _ hB3)
     obtain ⟨x0,x1,x2,x3,lt_x⟩:=blok4 hX
     obtain ⟨y,hy⟩:∃ y,Kc.foundC s.p.cs x.id = y:=⟨_,rfl⟩
     obtain ⟨q,hq⟩:∃ q,Kc.idIn s.p.cs x.id = q:=⟨_,rfl⟩
     have HY:=Lib.hid hy
     have HQ:=Lib.hid hq
     have HFN:=Lib.hid (Kc.find_any A1 n1 c1 s.p.cs x.id w3 hst3.pl.l1 (by omega) hst3.pl.s1 HRC.out y q hy hq)
     clear hst hst3 hy hq hab hb1
     go_wp2_with fail
     refine HFN.out.mono ?_
     rintro e w4 ⟨rfl,hb4⟩
     have hX4:=hX.below hb4 hX.lt
     have hB4:=hB3.trans (hb4.mono hB3.size)
     clear p0 p1 p2 p3 p4 lt_p x0 x1 x2 x3 lt_x hb4 hX hB3 HFN
     have hb5:Below w4.heap.size w4 (w4.alloc (.cells #[.int .i64 y.id,.int .i64 y.fr,.int .i64 y.tn,.int .i64 y.st,.int .i64 y.en,.int .i64 y.rt] 34)):=(Below.refl _ _).alloc (Nat.le_refl _) _
     have hY:=Blok.new w4 34 #[.int .i64 y.id,.int .i64 y.fr,.int .i64 y.tn,.int .i64 y.st,.int .i64 y.en,.int .i64 y.rt]
     go_upto_region 7 with fail
     have hX5:=hX4.below hb5 hX4.lt
     have hB5:=hB4.trans (hb5.mono hB4.size)
     clear hb5 hX4 hB4
     generalize w4.alloc (.cells #[.int .i64 y.id,.int .i64 y.fr,.int .i64 y.tn,.int .i64 y.st,.int .i64 y.en,.int .i64 y.rt] 34) = w5 at *
     generalize w4.heap.size = b4 at *
     obtain ⟨x0,x1,x2,x3,lt_x⟩:=blok4 hX5
     have y0:w5.cell? ⟨b4,0,none⟩ = some (.int .i64 y.id):=hY.cell 0
     have y1:w5.cell? ⟨b4,1,none⟩ = some (.int .i64 y.fr):=hY.cell 1
     have y2:w5.cell? ⟨b4,2,none⟩ = some (.int .i64 y.tn):=hY.cell 2
     have y3:w5.cell? ⟨b4,3,none⟩ = some (.int .i64 y.st):=hY.cell 3
     have y4:w5.cell? ⟨b4,4,none⟩ = some (.int .i64 y.en):=hY.cell 4
     have y5:w5.cell? ⟨b4,5,none⟩ = some (.int .i64 y.rt):=hY.cell 5
     have lt_y:=hY.lt
     have hB6:=hB2.trans (hB5.mono hB2.size)
     have hall:hasK s.p.cs x = false → b = false:=fun e => by
      rw [← HBB.out]
      unfold rightS
      rw [HB1.out,HB2.out]
      have:s.b.all (hasK s.p.cs) = false:=by
       rw [List.all_eq_false]
       exact ⟨x,by rw [← HX.out]; exact gBk_mem (by rw [HS2.out.lb]; exact hkn),by rw [e]; simp⟩
      rw [this]; rfl
     have HALL:=Lib.hid hall
     clear hall hX5 hY
     cases q with
     | false =>
      have HF:Hid (b = false):=HALL.out (by unfold hasK; rw [HQ.out]; rfl)
      go_wp2
      go_ret
      exact ⟨by rw [HF.out]; rfl,hB6⟩
     | true =>
      obtain ⟨o,ho⟩:∃ o,overB x y = o:=⟨_,rfl⟩
      have HO:=Lib.hid ho
      clear ho
      go_wp2_with fail
      refine (over_any x y w5 o HO.out).mono ?_
      rintro e w6 ⟨rfl,hb6⟩
      have hB7:=hB5.trans (hb6.mono hB5.size)
      have hB8:=hB6.trans (hb6.mono hB6.size)
      clear x0 x1 x2 x3 lt_x y0 y1 y2 y3 y4 y5 lt_y hb6 hB5 hB6
      cases o with
      | true =>
       have HF:Hid (b = false):=HALL.out (by unfold hasK; rw [HQ.out,HY.out,HO.out]; rfl)
       go_wp2
       go_ret
       exact ⟨by rw [HF.out]; rfl,hB8⟩
      | false =>
       have HN2:Hid (∀ j,j < k + 1 → hasK s.p.cs (gBk s.b j) = true):=fun j hj => by
        by_cases e:j = k
        ·rw [e,HX.out]; unfold hasK; rw [HQ.out,HY.out,HO.out]; rfl
        ·exact HN.out j (by omega)
       go_wp2
       go_roundw
       case rel => exact ⟨k + 1,by omega,by go_num,hB7,HN2⟩
       case measure => simp [intOf]; omega
    ·obtain rfl:k = nb:=by omega
     have HF:Hid (b = true):=by
      rw [← HBB.out]
      refine rightS_spec.2 ⟨HB1.out,HB2.out,fun x hx => ?_⟩
      obtain ⟨j,hj,e⟩:=List.getElem_of_mem hx
      rw [← e,← gBk_eq hj]
      exact HN.out j (by rw [HS2.out.lb] at hj; exact hj)
     go_wp2
     go_ret
     exact ⟨by rw [HF.out]; rfl,hBw⟩
def SRet (s':St) (q:Int) (w:World) (e:Ending) (w':World):Prop:=
 ∃ A1 n1 c1 A n c Ab nb cb,e = .returned (.tuple #[.agg #[.slice A1 n1 c1,.slice A n c,.int .i64 s'.p.clk,.int .i64 s'.p.ver,.slice Ab nb cb],.int .i64 q]) ∧ StOwn w' w.heap.size A1 n1 c1 A n c s'.p.clk s'.p.ver Ab nb cb s' ∧ Below w.heap.size w w'
theorem gone_mem {p:Pl} {now x:Int} (h:x ∈ advG p now):∃ y ∈ p.cs,y.id = x:=by
 unfold advG at h
 split at h
 ·unfold sortI at h
  have h2:=(List.mergeSort_perm _ _).mem_iff.1 h
  unfold Kc.goneL at h2
  obtain ⟨y,hy,e⟩:=List.mem_map.1 h2
  exact ⟨y,(List.mem_filter.1 hy).1,e⟩
 ·cases h
theorem right_wfK {cs:List Co} (h:Kc.rightC cs = true) {x:Co} (hx:x ∈ cs):(Lit.int .i64 x.id).wf = true ∧ 1 ≤ x.id ∧ x.id ≤ 1048576:=by
 obtain ⟨i,hi,rfl⟩:=List.getElem_of_mem hx
 have h1:=(Kc.rightC_true.1 h).2 i hi
 unfold Kc.stepC at h1
 rw [Bool.and_eq_true,Bool.and_eq_true] at h1
 have h2:=h1.1.1
 rw [gCo_eq hi] at h2
 unfold Kc.okC at h2
 obtain ⟨a,_⟩:=contactB_spec.1 h2
 exact ⟨wfI (by omega),a⟩
def advS (s:St) (now:Int):St:=⟨advP s.p now,Kb.dropL s.b (advG s.p now)⟩
set_option maxHeartbeats 8000000 in
set_option maxRecDepth 100000 in
theorem sadv_any (A1:Option Addr) (n1 c1:Nat) (A:Option Addr) (n c:Nat) (clk ver:Int) (Ab:Option Addr) (nb cb:Nat) (s:St) (now:Int) (w:World) (h:StAt w A1 n1 c1 A n c clk ver Ab nb cb s) (hr:rightS s = true) (s':St) (q:Int) (hs':advS s now = s') (hq:advQ s.p now = q) :
  Calls Tryz.prog 30 #[.agg #[.slice A1 n1 c1,.slice A n c,.int .i64 clk,.int .i64 ver,.slice Ab nb cb],.int .i64 now] w (SRet s' q w):=by
 have hB:Below w.heap.size w ((w.alloc (.cells #[.slice A1 n1 c1,.slice A n c,.int .i64 clk,.int .i64 ver,.slice Ab nb cb] 28)).alloc (.cells #[.slice none 0 0,.slice none 0 0,.int .i64 0,.int .i64 0,.slice none 0 0] 28)):=by (repeat (first | exact Below.refl _ _ | refine Below.alloc ?_ (by first | omega | (simp; done) | (simp; omega)) _ | refine Below.setCell ?_ (by first | omega | (simp; done) | (simp; omega)) _ | refine Below.drew ?_))
 have hP:=(Blok.new w 28 #[.slice A1 n1 c1,.slice A n c,.int .i64 clk,.int .i64 ver,.slice Ab nb cb]).alloc (.cells #[.slice none 0 0,.slice none 0 0,.int .i64 0,.int .i64 0,.slice none 0 0] 28)
 have hX:=Blok.new (w.alloc (.cells #[.slice A1 n1 c1,.slice A n c,.int .i64 clk,.int .i64 ver,.slice Ab nb cb] 28)) 28 #[.slice none 0 0,.slice none 0 0,.int .i64 0,.int .i64 0,.slice none 0 0]
 simp only [World.size_alloc] at hX
 have hs:=hB.size
 replace h:=h.up hB
 obtain ⟨hr1,hr2,hr3⟩:=rightS_spec.1 hr
 have hR:=Pl.right_spec.1 hr1
 obtain ⟨a,ha⟩:∃ a,advP s.p now = a:=⟨_,rfl⟩
 obtain ⟨g,hg⟩:∃ g,advG s.p now = g:=⟨_,rfl⟩
 have hsa:s' = ⟨a,Kb.dropL s.b g⟩:=by rw [← hs',← ha,← hg]; rfl
 have HQ:=Lib.hid hq
 have HA:=Lib.hid ha
 have HG:=Lib.hid hg
 have HGW:Hid (∀ k,k < g.length → (Lit.int .i64 (g.getD k 0)).wf = true):=fun k hk => by
  obtain ⟨y,hy,e⟩:=gone_mem (p:=s.p) (now:=now) (x:=g.getD k 0) (by rw [hg]; exact getZ_mem hk)
  rw [← e]
  exact (right_wfK hR.co hy).1
 have HGL:Hid (g.length ≤ 4096):=by
  have h1:=(adv_len s.p now).len
  have h2:=rightC_len hR.co
  rw [hg] at h1
  show g.length ≤ 4096
  omega
 have HRR:=Lib.hid hR
 have HR2:=Lib.hid hr2
 subst hsa
 clear hr hr1 hr2 hr3 hR ha hg hq hs'
 go_enter Tryz.func30,Tryz.ntmps30
 go_upto_region 1 with fail
 generalize (w.alloc (.cells #[.slice A1 n1 c1,.slice A n c,.int .i64 clk,.int .i64 ver,.slice Ab nb cb] 28)).alloc (.cells #[.slice none 0 0,.slice none 0 0,.int .i64 0,.int .i64 0,.slice none 0 0] 28) = w0 at *
 obtain ⟨bR,hbR⟩:∃ z,w.heap.size + 1 = z:=⟨_,rfl⟩
 obtain ⟨bS,hbS⟩:∃ z,w.heap.size = z:=⟨_,rfl⟩
 rw [hbR] at hX
 rw [hbS] at hP
 try rw [hbR]
 try rw [hbS]
 have hbo:w.heap.size ≤ bR ∧ bS < bR:=by omega
 have HPP:=Lib.hid (fun (w':World) (hb:Below w0.heap.size w0 w') => (hP.below hb hP.lt))
 have HXX:=Lib.hid (fun (w':World) (hb:Below w0.heap.size w0 w') => (hX.below hb hX.lt))
 have HU:=Lib.hid (fun (w':World) (hb:Below w0.heap.size w0 w') => h.up hb)
 have HB:=Lib.hid hB
 have hlX:=hX.lt
 have hnb:nb ≤ 100000:=h.bb
 obtain ⟨p0,p1,p2,p3,p4,lt_p⟩:=blok5 hP
 clear hX hP h hB hbS
 have HBR:=Lib.hid hbR
 clear hbR
 go_wp2_with fail
 refine (padv_to A1 n1 c1 A n c s.p now w0 (HU.out _ (Below.refl _ _)).pl HRR.out.v0 HRR.out.v1 clk ver (HU.out _ (Below.refl _ _)).ck (HU.out _ (Below.refl _ _)).vr a q g HA.out HQ.out HG.out).mono ?_
 rintro e w1 ⟨A2,n2,c2,A3,n3,c3,A4,n4,c4,rfl,ho,hgl,hgs,hb1⟩
 clear p0 p1 p2 p3 p4 lt_p
 have hb2:Below w1.heap.size w1 (w1.alloc (.cells #[.slice A2 n2 c2,.slice A3 n3 c3,.int .i64 a.clk,.int .i64 a.ver] 25)):=(Below.refl _ _).alloc (Nat.le_refl _) _
 have hY:=Blok.new w1 25 #[.slice A2 n2 c2,.slice A3 n3 c3,.int .i64 a.clk,.int .i64 a.ver]
 have ho2:=ho.below hb2
 have hgs2:=hgs.up hb2
 have hB2:=hb1.trans (hb2.mono hb1.size)
 have hs1:=hb1.size
 go_upto_region 2 with fail
 clear hb2 ho hgs hb1
 generalize w1.alloc (.cells #[.slice A2 n2 c2,.slice A3 n3 c3,.int .i64 a.clk,.int .i64 a.ver] 25) = w2 at *
 generalize w1.heap.size = bP at *
 have HY:=Lib.hid (fun (w':World) (hb:Below w2.heap.size w2 w') => (hY.below hb hY.lt))
 have HO2:=Lib.hid (fun (w':World) (hb:Below w2.heap.size w2 w') => ho2.below hb)
 have HG2:=Lib.hid (fun (w':World) (hb:Below w2.heap.size w2 w') => hgs2.up hb)
 have HGN:=Lib.hid hgl
 have hn4:n4 ≤ 4096:=by have:=HGL.out; omega
 have hlY:=hY.lt
 have hs2:=hB2.size
 have HB2:=Lib.hid hB2
 by_cases hq0:q = 0
 ·subst hq0
  have h00:((0:Int) != 0) = false:=rfl
  go_upto_region 4 with fail
  have HDR:=Lib.hid (fun (w':World) (hb:Below w2.heap.size w2 w') => Kb.drop_any Ab nb cb s.b A4 n4 c4 g w' (HU.out _ (HB2.out.trans (hb.mono HB2.out.size))).lb (by omega) HGN.out (by omega) (HU.out _ (HB2.out.trans (hb.mono HB2.out.size))).sb (HG2.out _ hb) (fun x hx => Kb.right_wf HR2.out x hx) (fun k hk => HGW.out k (by rw [HGN.out]; exact hk)))
  obtain ⟨p0,p1,p2,p3,p4,lt_p⟩:=blok5 (HPP.out _ hB2)
  obtain ⟨m0,m1,m2,m3,lt_m⟩:=blok4 hY
  have hC:Below w2.heap.size w2 w2:=Below.refl _ _
  clear hY ho2 hgs2 hgl hB2
  try simp only [List.append]
  go_region_law (first
   | (refine step_call rfl 67 #[.tmp 24,.tmp 25] _ rfl #[.slice Ab nb cb,.slice A4 n4 c4] (by simp [Act.eval,Act.put]) Tryz.func67 rfl rfl ?_; refine Calls.mono (HDR.out _ (by first | exact hC | exact hC.drew)) ?_; rintro e x1 ⟨v5,rfl,hv5,hbx⟩; obtain ⟨A5,c5,rfl⟩:=slice_of_own hv5; refine ⟨_,rfl,?_⟩; have hC':Below w2.heap.size w2 x1:=Below.trans (by first | exact hC | exact hC.drew) (hbx.mono (by first | exact hC.size | exact Nat.le_refl _)); clear hC; have hC:=hC'; clear hC' hbx; have szx1:=hC.size; obtain ⟨u0,u1,u2,u3,ul⟩:=blok4 (HY.out _ hC); obtain ⟨ur0,ur1,ur2,ur3,ur4,url⟩:=blok5 (HXX.out _ (HB2.out.trans (hC.mono HB2.out.size))); obtain ⟨uf0,uf1,uf2,uf3,uf4⟩:=free5 (HXX.out _ (HB2.out.trans (hC.mono HB2.out.size)))))
  all_goals
   have hX2:=HXX.out _ (HB2.out.trans (hC.mono HB2.out.size))
   have hB2:=HB.out.trans ((HB2.out.trans (hC.mono HB2.out.size)).mono hs)
   have hdl:(Kb.dropL s.b g).length ≤ s.b.length:=List.length_filter_le _ _
   have HOF:Hid (StOwn x1 (bR + 1) A2 n2 c2 A3 n3 c3 a.clk a.ver A5 (Kb.dropL s.b g).length c5 ⟨a,Kb.dropL s.b g⟩):=⟨(HO2.out _ hC).down (by omega),rfl,rfl,rfl,by have h1:=(HU.out _ (Below.refl _ _)).lb; show (Kb.dropL s.b g).length ≤ 100000; omega,own_down hv5 (by first | (have hd:w2.drew.heap.size = w2.heap.size:=rfl); omega)⟩
   clear p0 p1 p2 p3 p4 m0 m1 m2 m3 hv5 hC hdl
   try clear u0 u1 u2 u3 ur0 ur1 ur2 ur3 ur4 uf0 uf1 uf2 uf3 uf4
   generalize (Kb.dropL s.b g).length = nL at *
   obtain ⟨hF,hWf,hgw⟩:=ret5 hX2 hB2 (by omega) (.slice A2 n2 c2) (.slice A3 n3 c3) (.int .i64 a.clk) (.int .i64 a.ver) (.slice A5 nL c5)
   unfold set5 at hF hWf hgw
   have HO:=Lib.hid (StOwn.far HOF.out hgw (fun q hq => by injection hq with hq; omega))
   clear hgw hX2 hB2 HOF 
   generalize ((((x1.setCell ⟨bR,0,none⟩ (.slice A2 n2 c2)).setCell ⟨bR,1,none⟩ (.slice A3 n3 c3)).setCell ⟨bR,2,none⟩ (.int .i64 a.clk)).setCell ⟨bR,3,none⟩ (.int .i64 a.ver)).setCell ⟨bR,4,none⟩ (.slice A5 nL c5) = wf at *
   obtain ⟨r0,r1,r2,r3,r4,hlF⟩:=blok5 hF
   go_wp2_with fail
   refine bodyPost_ret (v:=.tuple #[.agg #[.slice A2 n2 c2,.slice A3 n3 c3,.int .i64 a.clk,.int .i64 a.ver,.slice A5 nL c5],.int .i64 0]) (by simp [results,Tryz.results30,go_sem,r0,r1,r2,r3,r4,hlF]) rfl ?_
   exact ⟨_,_,_,_,_,_,_,_,_,rfl,HO.out.down (show w.heap.size ≤ bR + 1 by omega),hWf⟩
 ·have h01:(q != 0) = true:=by simpa using hq0
  obtain ⟨p0,p1,p2,p3,p4,lt_p⟩:=blok5 (HPP.out _ hB2)
  go_wp2_with fail
  refine (sclone_any A1 n1 c1 A n c clk ver Ab nb cb s w2 (HU.out _ hB2)).mono ?_
  rintro e x1 ⟨A6,c6,A7,c7,A8,c8,rfl,hv5,hbx⟩
  have hC:=hB2.trans (hbx.mono hB2.size)
  obtain ⟨ur0,ur1,ur2,ur3,ur4,url⟩:=blok5 (HXX.out _ hC)
  obtain ⟨uf0,uf1,uf2,uf3,uf4⟩:=free5 (HXX.out _ hC)
  have hX2:=HXX.out _ hC
  have hBx:=HB.out.trans (hC.mono hs)
  have has:a = s.p:=by rw [← HA.out]; exact adv_same (by rw [HQ.out]; exact hq0)
  have hgs0:g = []:=by
   rw [← HG.out]
   unfold advG
   rw [if_neg (fun hi => hq0 (by rw [← HQ.out]; unfold advQ; rw [if_pos hi]))]
  have hdl:Kb.dropL s.b g = s.b:=by rw [hgs0]; unfold Kb.dropL Kb.inL; simp
  have HAS:=Lib.hid has
  have HDL:=Lib.hid hdl
  have hck:=(HU.out _ (Below.refl _ _)).ck
  have hvr:=(HU.out _ (Below.refl _ _)).vr
  subst hck hvr
  have HOF:Hid (StOwn x1 (bR + 1) A6 n1 c6 A7 n c7 s.p.clk s.p.ver A8 nb c8 s):=hv5.down (by omega)
  clear p0 p1 p2 p3 p4 lt_p hbx hC hY ho2 hgs2 hB2
  have hB2:=hBx
  clear hBx
  go_wp2
  obtain ⟨hF,hWf,hgw⟩:=ret5 hX2 hB2 (by omega) (.slice A6 n1 c6) (.slice A7 n c7) (.int .i64 s.p.clk) (.int .i64 s.p.ver) (.slice A8 nb c8)
  unfold set5 at hF hWf hgw
  have HO:=Lib.hid (StOwn.far HOF.out hgw (fun q hq => by injection hq with hq; omega))
  clear hgw hX2 hB2 HOF ur0 ur1 ur2 ur3 ur4 uf0 uf1 uf2 uf3 uf4 has hgs0 hdl
  generalize ((((x1.setCell ⟨bR,0,none⟩ (.slice A6 n1 c6)).setCell ⟨bR,1,none⟩ (.slice A7 n c7)).setCell ⟨bR,2,none⟩ (.int .i64 s.p.clk)).setCell ⟨bR,3,none⟩ (.int .i64 s.p.ver)).setCell ⟨bR,4,none⟩ (.slice A8 nb c8) = wf at *
  obtain ⟨r0,r1,r2,r3,r4,hlF⟩:=blok5 hF
  go_wp2_with fail
  refine bodyPost_ret (v:=.tuple #[.agg #[.slice A6 n1 c6,.slice A7 n c7,.int .i64 s.p.clk,.int .i64 s.p.ver,.slice A8 nb c8],.int .i64 q]) (by simp [results,Tryz.results30,go_sem,r0,r1,r2,r3,r4,hlF]) rfl ?_
  have hfin:(⟨a,Kb.dropL s.b g⟩:St) = s:=by rw [HAS.out,HDL.out]
  unfold SRet
  rw [hfin]
  exact ⟨_,_,_,_,_,_,_,_,_,rfl,HO.out.down (show w.heap.size ≤ bR + 1 by omega),hWf⟩
end Go.Proofs.YtjldgcebadojiaaGreatDoor
