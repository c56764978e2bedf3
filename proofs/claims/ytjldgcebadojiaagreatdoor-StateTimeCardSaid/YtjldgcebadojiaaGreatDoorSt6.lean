/- state.onEach. It makes new memory alone. A right state. -/
import Derived.Test.YtjldgcebadojiaaGreatDoorGQ17
import Derived.Maps.AppendAt
import Derived.Deep.CutBlock
import Derived.Deep.DeepCutAuto
namespace Go.Proofs.YtjldgcebadojiaaGreatDoor
open Go.ChangeShapes Go.WideShapes Go.ChangeAt Go.RowKit Go.Sort
set_option linter.unusedSimpArgs false
set_option linter.unusedVariables false
/-- What a function that is handed in does to what is booked. -/
def runE (F:List Bk → Co → List Bk × Bool):List Bk → List Co → List Bk × Bool
 | l,[] => (l,true)
 | l,k :: ks => if (F l k).2 = true then runE F (F l k).1 ks else ((F l k).1,false)
theorem runE_snoc (F:List Bk → Co → List Bk × Bool):∀ (ks:List Co) (l:List Bk) (k:Co),runE F l (ks ++ [k]) = if (runE F l ks).2 = true then F (runE F l ks).1 k else runE F l ks
 | [],l,k => by
  show (if (F l k).2 = true then runE F (F l k).1 [] else ((F l k).1,false)) = F l k
  cases h:(F l k).2 with
  | true => rw [if_pos rfl]; show ((F l k).1,true) = _; rw [← h]
  | false => rw [if_neg (by simp)]; rw [← h]
 | j :: ks,l,k => by
  show (if (F l j).2 = true then runE F (F l j).1 (ks ++ [k]) else ((F l j).1,false)) = _
  by_cases h:(F l j).2 = true
  ·rw [if_pos h,runE_snoc F ks,runE,if_pos h]
  ·rw [if_neg h,runE,if_neg h]; simp
theorem runE_stop (F:List Bk → Co → List Bk × Bool):∀ (xs ys:List Co) (l:List Bk),(runE F l xs).2 = false → runE F l (xs ++ ys) = runE F l xs
 | [],ys,l,h => by cases h
 | j :: xs,ys,l,h => by
  rw [runE] at h
  show (if (F l j).2 = true then runE F (F l j).1 (xs ++ ys) else ((F l j).1,false)) = _
  by_cases h2:(F l j).2 = true
  ·rw [if_pos h2] at h
   rw [if_pos h2,runE_stop F xs ys _ h,runE,if_pos h2]
  ·rw [if_neg h2,runE,if_neg h2]
structure FOk (F:List Bk → Co → List Bk × Bool):Prop where
 right:∀ l k,Kb.rightB l = true → Kb.rightB (F l k).1 = true
 len:∀ l k,(F l k).1.length ≤ l.length + 1
theorem runE_ok {F:List Bk → Co → List Bk × Bool} (h:FOk F):∀ (ks:List Co) (l:List Bk),Kb.rightB l = true → Kb.rightB (runE F l ks).1 = true ∧ (runE F l ks).1.length ≤ l.length + ks.length
 | [],l,hr => ⟨hr,by simp [runE]⟩
 | j :: ks,l,hr => by
  rw [runE]
  have h1:=h.len l j
  split
  ·obtain ⟨a,b⟩:=runE_ok h ks (F l j).1 (h.right l j hr)
   exact ⟨a,by simp only [List.length_cons]; omega⟩
  ·exact ⟨h.right l j hr,by simp only [List.length_cons]; omega⟩
structure DoC (g:FuncId) (lb:Array Value) (F:List Bk → Co → List Bk × Bool) (W:World):Prop where
 run:∀ vals w,(callFunc g vals).run Tryz.prog w = .ok (.enter g vals) w
 tells:∀ w',Below W.heap.size W w' → ∀ (A:Option Addr) (n c:Nat) (l:List Bk) (k:Co),l.length = n → n ≤ 100000 → Sl w' w'.heap.size 4 A n c (flatBk l) → Kb.rightB l = true → Calls Tryz.prog g (#[.slice A n c,.agg #[.int .i64 k.id,.int .i64 k.fr,.int .i64 k.tn,.int .i64 k.st,.int .i64 k.en,.int .i64 k.rt]] ++ lb) w' fun e w'' => ∃ v,e = .returned (.tuple #[v,.bool (F l k).2]) ∧ w''.ownsRow w'.heap.size 50 4 v (F l k).1.length (flatBk (F l k).1) ∧ Below w'.heap.size w' w''
theorem DoC.below {g:FuncId} {lb:Array Value} {F:List Bk → Co → List Bk × Bool} {W W':World} (h:DoC g lb F W) (hb:Below W.heap.size W W'):DoC g lb F W':=⟨h.run,fun w' hb' => h.tells w' (hb.trans (hb'.mono hb.size))⟩
def badA (ids:List Int) (cl sz:Int):Bool:=decide (ids.length = 0) || (dupB ids || (!inB cl 0 2 || !inB sz 0 1099511627775))
def allIn (s:St) (ids:List Int):Bool:=ids.all fun i => Kc.idIn s.p.cs i
def contK (s:St) (ids:List Int):List Co:=ids.map fun i => Kc.foundC s.p.cs i
theorem contK_next {s:St} {ids:List Int} {k:Nat} (h:k < ids.length):(contK s ids).take (k + 1) = (contK s ids).take k ++ [Kc.foundC s.p.cs (ids.getD k 0)]:=by
 unfold contK
 rw [List.take_succ_eq_append_getElem (by simpa using h),List.getElem_map,← getZ_eq h]
theorem contK_get {s:St} {ids:List Int} {k:Nat} (h:k < ids.length):gCo (contK s ids) k = Kc.foundC s.p.cs (ids.getD k 0):=by
 unfold contK
 rw [gCo_eq (by simpa using h),List.getElem_map,← getZ_eq h]
theorem contK_len (s:St) (ids:List Int):(contK s ids).length = ids.length:=by unfold contK; simp
def eachQ (F:List Bk → Co → List Bk × Bool) (s:St) (ids:List Int) (cl sz:Int):Int:=if badA ids cl sz = true then 1 else if allIn s ids = false then 6 else if (runE F s.b (contK s ids)).2 = true then 0 else 8
def eachS (F:List Bk → Co → List Bk × Bool) (s:St) (ids:List Int) (cl sz:Int):St:=if eachQ F s ids cl sz = 0 then ⟨s.p,(runE F s.b (contK s ids)).1⟩ else s
def ctK (k:Co):Kb.Ct:=⟨k.id,k.fr,k.tn,k.st,k.en,k.rt⟩
def bookFn (cl sz:Int) (l:List Bk) (k:Co):List Bk × Bool:=(Kb.bookL l (ctK k) cl sz,Kb.bookB l (ctK k) cl sz)
def relFn (cl sz:Int) (l:List Bk) (k:Co):List Bk × Bool:=(Kb.relL l k.id cl sz,Kb.relB l k.id cl sz)
theorem bookFn_ok (cl sz:Int):FOk (bookFn cl sz):=⟨fun l k h => Kb.book_right h,fun l k => Kb.bookL_len l _ cl sz⟩
theorem relFn_ok (cl sz:Int):FOk (relFn cl sz):=⟨fun l k h => Kb.rel_right h,fun l k => Kb.relL_len l _ cl sz⟩
set_option maxHeartbeats 16000000 in
set_option maxRecDepth 100000 in
theorem seach_any (F:List Bk → Co → List Bk × Bool) (hF:FOk F) (g:FuncId) (lb:Array Value) (A1:Option Addr) (n1 c1:Nat) (A:Option Addr) (n c:Nat) (clk ver:Int) (Ab:Option Addr) (nb cb:Nat) (Ai:Option Addr) (mi ci:Nat) (ids:List Int) (cl sz:Int) (s:St) (w:World) (h:StAt w A1 n1 c1 A n c clk ver Ab nb cb s) (hn2:nb ≤ 90000) (hr:rightS s = true) (hmi:ids.length = mi) (hm:mi ≤ 1000) (hi:Sl w w.heap.size 1 Ai mi ci (ids.map (Value.int .i64))) (hiw:∀ k,k < mi → (Lit.int .i64 (ids.getD k 0)).wf = true) (hdo:DoC g lb F w) (s':St) (q:Int) (hs':eachS F s ids cl sz = s') (hq:eachQ F s ids cl sz = q) :
  Calls Tryz.prog 51 #[.agg #[.slice A1 n1 c1,.slice A n c,.int .i64 clk,.int .i64 ver,.slice Ab nb cb],.slice Ai mi ci,.int .i64 cl,.int .i64 sz,.func (.func g) #[] lb] w (SRet s' q w):=by
 obtain ⟨i0,hi0,hz0,hz1,hz2⟩:=info_parts infoCo
 have hB:Below w.heap.size w ((w.alloc (.cells #[.slice A1 n1 c1,.slice A n c,.int .i64 clk,.int .i64 ver,.slice Ab nb cb] 28)).alloc (.cells #[.slice none 0 0,.slice none 0 0,.int .i64 0,.int .i64 0,.slice none 0 0] 28)):=by (repeat (first | exact Below.refl _ _ | refine Below.alloc ?_ (by first | omega | (simp; done) | (simp; omega)) _ | refine Below.setCell ?_ (by first | omega | (simp; done) | (simp; omega)) _ | refine Below.drew ?_))
 have hP:=(Blok.new w 28 #[.slice A1 n1 c1,.slice A n c,.int .i64 clk,.int .i64 ver,.slice Ab nb cb]).alloc (.cells #[.slice none 0 0,.slice none 0 0,.int .i64 0,.int .i64 0,.slice none 0 0] 28)
 have hX:=Blok.new (w.alloc (.cells #[.slice A1 n1 c1,.slice A n c,.int .i64 clk,.int .i64 ver,.slice Ab nb cb] 28)) 28 #[.slice none 0 0,.slice none 0 0,.int .i64 0,.int .i64 0,.slice none 0 0]
 simp only [World.size_alloc] at hX
 have hs:=hB.size
 replace h:=h.up hB
 replace hi:=hi.up hB
 replace hdo:=hdo.below hB
 obtain ⟨hr1,hr2,hr3⟩:=rightS_spec.1 hr
 have HSE:=Lib.hid hs'
 have HQE:=Lib.hid hq
 have HR1:=Lib.hid hr1
 have HR2:=Lib.hid hr2
 have HMI:=Lib.hid hmi
 have HIW:=Lib.hid hiw
 have HFK:=Lib.hid hF
 have hrun:=hdo.run
 clear hr hr1 hr2 hr3 hq hs' hmi hiw hF
 go_enter Tryz.func51,Tryz.ntmps51
 go_upto_region 1 with fail
 generalize (w.alloc (.cells #[.slice A1 n1 c1,.slice A n c,.int .i64 clk,.int .i64 ver,.slice Ab nb cb] 28)).alloc (.cells #[.slice none 0 0,.slice none 0 0,.int .i64 0,.int .i64 0,.slice none 0 0] 28) = w0 at *
 obtain ⟨bR,hbR⟩:∃ z,w.heap.size + 1 = z:=⟨_,rfl⟩
 obtain ⟨bS,hbS⟩:∃ z,w.heap.size = z:=⟨_,rfl⟩
 rw [hbR] at hX
 rw [hbS] at hP
 try rw [hbR]
 try rw [hbS]
 have hbo:w.heap.size ≤ bR ∧ bS < bR:=by omega
 have HPP:=Lib.hid (fun (w':World) (hb:Below w0.heap.size w0 w') => (hP.below hb hP.lt))
 have HXX:=Lib.hid (fun (w':World) (hb:Below w0.heap.size w0 w') => (hX.below hb hX.lt))
 have HU:=Lib.hid (fun (w':World) (hb:Below w0.heap.size w0 w') => h.up hb)
 have HIS:=Lib.hid (fun (w':World) (hb:Below w0.heap.size w0 w') => hi.up hb)
 have HDO:=Lib.hid (fun (w':World) (hb:Below w0.heap.size w0 w') => hdo.below hb)
 have HB:=Lib.hid hB
 have hlX:=hX.lt
 obtain ⟨bad,hbad⟩:∃ z,badA ids cl sz = z:=⟨_,rfl⟩
 have HBAD:=Lib.hid hbad
 clear hX hP h hi hdo hB hbS hbR hbad
 go_cut [37] (fun s37 wx => s37 = .bool bad ∧ Below w0.heap.size w0 wx)
 case first =>
  by_cases hm0:mi = 0
  ·subst hm0
   have HT:Hid (bad = true):=by rw [← HBAD.out]; unfold badA; rw [HMI.out]; rfl
   go_wp2_with fail
   go_meet
   exact ⟨by rw [HT.out],by (repeat (first | exact Below.refl _ _ | refine Below.alloc ?_ (by first | omega | (simp; done) | (simp; omega)) _ | refine Below.setCell ?_ (by first | omega | (simp; done) | (simp; omega)) _ | refine Below.drew ?_))⟩
  ·have hmb:((mi:Int) == 0) = false:=beq_eq_false_iff_ne.2 (by omega)
   obtain ⟨b1,hb1⟩:∃ z,dupB ids = z:=⟨_,rfl⟩
   obtain ⟨b2,hb2⟩:∃ z,inB cl 0 2 = z:=⟨_,rfl⟩
   obtain ⟨b3,hb3⟩:∃ z,inB sz 0 1099511627775 = z:=⟨_,rfl⟩
   have HT:Hid (bad = (b1 || (!b2 || !b3))):=by rw [← HBAD.out]; unfold badA; rw [HMI.out,hb1,hb2,hb3,decide_eq_false hm0]; rfl
   have HB1:=Lib.hid hb1
   have HB2:=Lib.hid hb2
   have HB3:=Lib.hid hb3
   clear hb1 hb2 hb3
   go_wp2_with fail
   refine (twice_any Ai mi ci ids w0 HMI.out (by omega) (HIS.out _ (Below.refl _ _)) HIW.out b1 HB1.out).mono ?_
   rintro e w1 ⟨rfl,hb1⟩
   cases b1 with
   | true =>
    go_wp2_with fail
    go_meet
    exact ⟨by rw [HT.out]; rfl,hb1⟩
   | false =>
    cases b2 with
    | false =>
     go_wp2_with (go_at_call 76; (with_reducible refine Calls.mono (in_is false HB2.out _) ?_); rintro e w9 ⟨rfl,rfl⟩)
     go_meet
     exact ⟨by rw [HT.out]; rfl,hb1⟩
    | true =>
     go_wp2_with (first | (go_at_call 76; (with_reducible refine Calls.mono (in_is true HB2.out _) ?_); rintro e w9 ⟨rfl,rfl⟩) | (go_at_call 76; (with_reducible refine Calls.mono (in_is b3 HB3.out _) ?_); rintro e w9 ⟨rfl,rfl⟩))
     go_meet
     exact ⟨by rw [HT.out]; cases b3 <;> rfl,hb1⟩
 case rest =>
  obtain ⟨rfl,hBW⟩:=hcut
  generalize wc = w2 at *
  have hs2:=hBW.size
  cases bad with
  | true =>
   have hqe:eachQ F s ids cl sz = 1:=by unfold eachQ; rw [if_pos HBAD.out]
   have hse:s' = s:=by rw [← HSE.out]; unfold eachS; rw [if_neg (by rw [hqe]; simp)]
   have hqq:q = 1:=HQE.out.symm.trans hqe
   subst hqq
   have HSS:=Lib.hid hse
   clear hqe hse
   obtain ⟨p0,p1,p2,p3,p4,lt_p⟩:=blok5 (HPP.out _ hBW)
   have hkk:=HU.out _ hBW
   go_wp2_with fail
   refine (sclone_any A1 n1 c1 A n c clk ver Ab nb cb s w2 hkk).mono ?_
   rintro e x9 ⟨A6,c6,A7,c7,A8,c8,rfl,hv5,hbx⟩
   have hC9:=hBW.trans (hbx.mono hBW.size)
   obtain ⟨ur0,ur1,ur2,ur3,ur4,url⟩:=blok5 (HXX.out _ hC9)
   obtain ⟨uf0,uf1,uf2,uf3,uf4⟩:=free5 (HXX.out _ hC9)
   have hX2:=HXX.out _ hC9
   have hB2:=HB.out.trans (hC9.mono hs)
   have hszW:=hBW.size
   have HCK:=Lib.hid hkk.ck
   have HVR:=Lib.hid hkk.vr
   have HOF:Hid (StOwn x9 (bR + 1) A6 n1 c6 A7 n c7 clk ver A8 nb c8 s):=hv5.down (by omega)
   clear p0 p1 p2 p3 p4 lt_p hbx hC9 hBW hkk
   go_wp2
   obtain ⟨hF,hWf,hgw⟩:=ret5 hX2 hB2 (by omega) (.slice A6 n1 c6) (.slice A7 n c7) (.int .i64 clk) (.int .i64 ver) (.slice A8 nb c8)
   unfold set5 at hF hWf hgw
   have HO:=Lib.hid (StOwn.far HOF.out hgw (fun q hq => by injection hq with hq; omega))
   clear hgw hX2 hB2 HOF ur0 ur1 ur2 ur3 ur4 uf0 uf1 uf2 uf3 uf4
   generalize ((((x9.setCell ⟨bR,0,none⟩ (.slice A6 n1 c6)).setCell ⟨bR,1,none⟩ (.slice A7 n c7)).setCell ⟨bR,2,none⟩ (.int .i64 clk)).setCell ⟨bR,3,none⟩ (.int .i64 ver)).setCell ⟨bR,4,none⟩ (.slice A8 nb c8) = wf at *
   obtain ⟨r0,r1,r2,r3,r4,hlF⟩:=blok5 hF
   go_wp2_with fail
   refine bodyPost_ret (v:=.tuple #[.agg #[.slice A6 n1 c6,.slice A7 n c7,.int .i64 clk,.int .i64 ver,.slice A8 nb c8],.int .i64 1]) (by simp [results,Tryz.results51,go_sem,r0,r1,r2,r3,r4,hlF]) rfl ?_
   have hfin:=HSS.out
   subst hfin
   unfold SRet
   rw [HCK.out,HVR.out]
   exact ⟨_,_,_,_,_,_,_,_,_,rfl,HO.out.down (show w.heap.size ≤ bR + 1 by omega),hWf⟩
  | false =>
   have hcs:s.p.cs.length = n1:=(HU.out _ (Below.refl _ _)).pl.l1
   have HCS:=Lib.hid hcs
   have HRC:Hid (Kc.rightC s.p.cs = true):=(Pl.right_spec.1 HR1.out).co
   have hn1:n1 ≤ 100000:=(HU.out _ (Below.refl _ _)).pl.b1
   clear hcs
   go_wp2
   go_loopw [12,42] (fun fv iv wr => ∃ (k:Nat) (fs:List Co),iv = .int .i64 k ∧ k ≤ mi ∧ fs.length = k ∧ Hid (fs = (contK s ids).take k) ∧ Hid (∀ j,j < k → Kc.idIn s.p.cs (ids.getD j 0) = true) ∧ Hid (wr.ownsRow w2.heap.size 34 6 fv k (flatCo fs)) ∧ Below w2.heap.size w2 wr) (fun _ iv _ => mi - (intOf iv).toNat)
   case atStart => exact ⟨0,[],rfl,by omega,rfl,rfl,fun j hj => by omega,World.ownsRow_nil _ _ _ _,Below.refl _ _⟩
   case round =>
    obtain ⟨k,fs,rfl,hk,hfl,HF,HN,HOW,hBr⟩:=hrel
    have hBW2:=hBW.trans (hBr.mono hBW.size)
    have hsr:=hBr.size
    by_cases hkn:k < mi
    ·obtain ⟨ad,rfl,hab,c0⟩:=Lst.atI (HIS.out _ hBW2).lst HMI.out hkn
     obtain ⟨id,hid⟩:∃ z,ids.getD k 0 = z:=⟨_,rfl⟩
     rw [hid] at c0
     obtain ⟨y,hy⟩:∃ y,Kc.foundC s.p.cs id = y:=⟨_,rfl⟩
     obtain ⟨qi,hqi⟩:∃ z,Kc.idIn s.p.cs id = z:=⟨_,rfl⟩
     have HID:=Lib.hid hid
     have HY:=Lib.hid hy
     have HQI:=Lib.hid hqi
     have hst:=HU.out _ hBW2
     have HFN:=Lib.hid (Kc.find_any A1 n1 c1 s.p.cs id wr hst.pl.l1 (by omega) hst.pl.s1 HRC.out y qi hy hqi)
     obtain ⟨p0,p1,p2,p3,p4,lt_p⟩:=blok5 (HPP.out _ hBW2)
     clear hid hy hqi hst
     go_wp2_with fail
     refine HFN.out.mono ?_
     rintro e w4 ⟨rfl,hb4⟩
     clear p0 p1 p2 p3 p4 lt_p c0 hab HFN
     have hb5:Below w4.heap.size w4 (w4.alloc (.cells #[.int .i64 y.id,.int .i64 y.fr,.int .i64 y.tn,.int .i64 y.st,.int .i64 y.en,.int .i64 y.rt] 34)):=(Below.refl _ _).alloc (Nat.le_refl _) _
     have hK:=Blok.new w4 34 #[.int .i64 y.id,.int .i64 y.fr,.int .i64 y.tn,.int .i64 y.st,.int .i64 y.en,.int .i64 y.rt]
     go_upto_region 8 with fail
     have hb45:=hb4.trans (hb5.mono hb4.size)
     have hB5:=hBr.trans (hb45.mono hBr.size)
     have hBW5:=hBW2.trans (hb45.mono hBW2.size)
     have how5:=own_below HOW.out hb45
     clear hb4 hb5 hb45 hBr HOW hBW2
     generalize w4.alloc (.cells #[.int .i64 y.id,.int .i64 y.fr,.int .i64 y.tn,.int .i64 y.st,.int .i64 y.en,.int .i64 y.rt] 34) = w5 at *
     generalize w4.heap.size = bK at *
     cases qi with
     | false =>
      have hqe:eachQ F s ids cl sz = 6:=by
       unfold eachQ
       rw [if_neg (by rw [HBAD.out]; simp)]
       have:allIn s ids = false:=by
        unfold allIn
        rw [List.all_eq_false]
        exact ⟨id,by rw [← HID.out]; exact getZ_mem (by rw [HMI.out]; exact hkn),by rw [HQI.out]; simp⟩
       rw [if_pos this]
      have hse:s' = s:=by rw [← HSE.out]; unfold eachS; rw [if_neg (by rw [hqe]; simp)]
      have hqq:q = 6:=HQE.out.symm.trans hqe
      subst hqq
      have HSS:=Lib.hid hse
      have hBW:=hBW5
      clear hqe hse how5 hB5 hK hBW5
      obtain ⟨p0,p1,p2,p3,p4,lt_p⟩:=blok5 (HPP.out _ hBW)
      have hkk:=HU.out _ hBW
      go_wp2_with fail
      refine (sclone_any A1 n1 c1 A n c clk ver Ab nb cb s w5 hkk).mono ?_
      rintro e x9 ⟨A6,c6,A7,c7,A8,c8,rfl,hv5,hbx⟩
      have hC9:=hBW.trans (hbx.mono hBW.size)
      obtain ⟨ur0,ur1,ur2,ur3,ur4,url⟩:=blok5 (HXX.out _ hC9)
      obtain ⟨uf0,uf1,uf2,uf3,uf4⟩:=free5 (HXX.out _ hC9)
      have hX2:=HXX.out _ hC9
      have hB2:=HB.out.trans (hC9.mono hs)
      have hszW:=hBW.size
      have HCK:=Lib.hid hkk.ck
      have HVR:=Lib.hid hkk.vr
      have HOF:Hid (StOwn x9 (bR + 1) A6 n1 c6 A7 n c7 clk ver A8 nb c8 s):=hv5.down (by omega)
      clear p0 p1 p2 p3 p4 lt_p hbx hC9 hBW hkk
      go_wp2
      obtain ⟨hF,hWf,hgw⟩:=ret5 hX2 hB2 (by omega) (.slice A6 n1 c6) (.slice A7 n c7) (.int .i64 clk) (.int .i64 ver) (.slice A8 nb c8)
      unfold set5 at hF hWf hgw
      have HO:=Lib.hid (StOwn.far HOF.out hgw (fun q hq => by injection hq with hq; omega))
      clear hgw hX2 hB2 HOF ur0 ur1 ur2 ur3 ur4 uf0 uf1 uf2 uf3 uf4
      generalize ((((x9.setCell ⟨bR,0,none⟩ (.slice A6 n1 c6)).setCell ⟨bR,1,none⟩ (.slice A7 n c7)).setCell ⟨bR,2,none⟩ (.int .i64 clk)).setCell ⟨bR,3,none⟩ (.int .i64 ver)).setCell ⟨bR,4,none⟩ (.slice A8 nb c8) = wf at *
      obtain ⟨r0,r1,r2,r3,r4,hlF⟩:=blok5 hF
      go_wp2_with fail
      refine bodyPost_ret (v:=.tuple #[.agg #[.slice A6 n1 c6,.slice A7 n c7,.int .i64 clk,.int .i64 ver,.slice A8 nb c8],.int .i64 6]) (by simp [results,Tryz.results51,go_sem,r0,r1,r2,r3,r4,hlF]) rfl ?_
      have hfin:=HSS.out
      subst hfin
      unfold SRet
      rw [HCK.out,HVR.out]
      exact ⟨_,_,_,_,_,_,_,_,_,rfl,HO.out.down (show w.heap.size ≤ bR + 1 by omega),hWf⟩
     | true =>
      obtain ⟨A4,c4,rfl⟩:=slice_of_own how5
      have k0:w5.cell? ⟨bK,0,none⟩ = some (.int .i64 y.id):=hK.cell 0
      have k1:w5.cell? ⟨bK,1,none⟩ = some (.int .i64 y.fr):=hK.cell 1
      have k2:w5.cell? ⟨bK,2,none⟩ = some (.int .i64 y.tn):=hK.cell 2
      have k3:w5.cell? ⟨bK,3,none⟩ = some (.int .i64 y.st):=hK.cell 3
      have k4:w5.cell? ⟨bK,4,none⟩ = some (.int .i64 y.en):=hK.cell 4
      have k5:w5.cell? ⟨bK,5,none⟩ = some (.int .i64 y.rt):=hK.cell 5
      have lt_k:=hK.lt
      have hs5:=hB5.size
      have HB5:=Lib.hid hB5
      have HW5:=Lib.hid how5
      clear hK how5 hB5
      go_upto_region 11 with (first | (at_builtin; refine wpList_append_own_at _ rfl (.tmp 58) (.tmp 60) 22 rfl w2.heap.size 34 i0 _ 6 48 Tryz.underlying22 hi0 hz0 hz1 hz2 rfl (by decide) (.slice A4 k c4) k (flatCo fs) rfl (HW5.out.alloc _) ⟨w5.heap.size,0,none⟩ 1 1 [.int .i64 y.id,.int .i64 y.fr,.int .i64 y.tn,.int .i64 y.st,.int .i64 y.en,.int .i64 y.rt] rfl rfl (by exact lit_cells _ #[.int .i64 y.id,.int .i64 y.fr,.int .i64 y.tn,.int .i64 y.st,.int .i64 y.en,.int .i64 y.rt] _ _ rfl) (by simp [Value.oneCell']) (by unfold maxLen; omega) (by omega) (by simp; omega) ?_; intro v6 w6 hown6 hg6 hx6 hat6))
      have hB6:Below w2.heap.size w2 w6:=Below.grown (HB5.out.alloc hs5 _) hg6 (by simp; omega) (fun q hq => (HW5.out.lt q hq).1)
      have hfs:flatCo fs ++ [.int .i64 y.id,.int .i64 y.fr,.int .i64 y.tn,.int .i64 y.st,.int .i64 y.en,.int .i64 y.rt] = flatCo (fs ++ [y]):=by rw [flatCo_append]; rfl
      rw [hfs] at hown6
      have HF2:Hid (fs ++ [y] = (contK s ids).take (k + 1)):=by
       show fs ++ [y] = _
       rw [contK_next (by rw [HMI.out]; exact hkn),← HF.out,HID.out,HY.out]
      have HN2:Hid (∀ j,j < k + 1 → Kc.idIn s.p.cs (ids.getD j 0) = true):=fun j hj => by
       by_cases e:j = k
       ·rw [e,HID.out]; exact HQI.out
       ·exact HN.out j (by omega)
      have HOW6:=Lib.hid hown6
      clear k0 k1 k2 k3 k4 k5 lt_k hown6 hg6 hx6 hat6 hfs HF HN HW5 HB5
      go_wp2
      go_roundw
      case rel => exact ⟨k + 1,fs ++ [y],by go_num,by omega,by simp [hfl],HF2,HN2,HOW6,hB6⟩
      case measure => simp [intOf]; omega
    ·obtain rfl:k = mi:=by omega
     have hfs:fs = contK s ids:=by rw [HF.out,List.take_of_length_le (by unfold contK; rw [List.length_map,HMI.out]; exact Nat.le_refl _)]
     have hall:allIn s ids = true:=by
      unfold allIn
      rw [List.all_eq_true]
      intro i hi
      obtain ⟨j,hj,e⟩:=List.getElem_of_mem hi
      rw [← e,← getZ_eq hj]
      exact HN.out j (by rw [HMI.out] at hj; exact hj)
     subst hfs
     have HALL:=Lib.hid hall
     have HFL:=Lib.hid hfl
     obtain ⟨Af,cf,rfl⟩:=slice_of_own HOW.out
     obtain ⟨wA,hwA⟩:∃ z,z = wr:=⟨_,rfl⟩
     subst hwA
     clear hall hfl HF HN
     obtain ⟨p0,p1,p2,p3,p4,lt_p⟩:=blok5 (HPP.out _ hBW2)
     go_wp2_with fail
     refine (sclone_any A1 n1 c1 A n c clk ver Ab nb cb s wA (HU.out _ hBW2)).mono ?_
     rintro e w5 ⟨A6,c6,A7,c7,A8,c8,rfl,hv5,hb5⟩
     clear p0 p1 p2 p3 p4 lt_p
     have hb6:Below w5.heap.size w5 (w5.alloc (.cells #[.slice A6 n1 c6,.slice A7 n c7,.int .i64 clk,.int .i64 ver,.slice A8 nb c8] 28)):=(Below.refl _ _).alloc (Nat.le_refl _) _
     have hN:=Blok.new w5 28 #[.slice A6 n1 c6,.slice A7 n c7,.int .i64 clk,.int .i64 ver,.slice A8 nb c8]
     go_upto_region 13 with fail
     have HNF:Hid (∀ g,(Value.slice Af k cf).ownBlock = some g → g < w5.heap.size):=fun g hg => Nat.lt_of_lt_of_le (HOW.out.lt g hg).2 hb5.size
     have HN1:Hid (∀ g,(Value.slice A6 n1 c6).ownBlock = some g → g < w5.heap.size):=fun g hg => (hv5.pl.o1.lt g hg).2
     have HN3:Hid (∀ g,(Value.slice A7 n c7).ownBlock = some g → g < w5.heap.size):=fun g hg => (hv5.pl.o.lt g hg).2
     have HN4:Hid (∀ g,(Value.slice A8 nb c8).ownBlock = some g → g < w5.heap.size):=fun g hg => (hv5.ob.lt g hg).2
     have hv6:=hv5.below hb6
     have hbA:=hb5.trans (hb6.mono hb5.size)
     have hfo:=own_below HOW.out hbA
     have hBW6:=hBW2.trans (hbA.mono hBW2.size)
     have hsA:=hb5.size
     clear hb5 hb6 hv5 HOW hBr
     generalize w5.alloc (.cells #[.slice A6 n1 c6,.slice A7 n c7,.int .i64 clk,.int .i64 ver,.slice A8 nb c8] 28) = w6 at *
     have hNl:wA.heap.size ≤ w5.heap.size:=hsA
     generalize w5.heap.size = bN at *
     have hbl:∀ {T:TypeId} {K m:Nat} {v:Value} {xs:List Value} {b:Nat},wA.heap.size ≤ bN → b ≤ w6.heap.size → True:=fun _ _ => trivial
     have hNlt:=hN.lt
     have ho1:=hv6.pl.o1
     have ho2:=hv6.pl.o
     have hbk:=hv6.ob
     have HCK:=Lib.hid hv6.ck
     have HVR:=Lib.hid hv6.vr
     have HPL:=Lib.hid hv6.pl
     have HLB:=Lib.hid hv6.lb
     have hn1b:=hv6.pl.b1
     have hnb1:=hv6.pl.b
     have hBA:Below wA.heap.size wA w6:=hbA
     clear hv6 hbA hbl
     go_wp2
     go_loopw [67] (fun iv wr => ∃ (j:Nat) (l:List Bk) (A5:Option Addr) (n5 c5:Nat),iv = .int .i64 j ∧ j ≤ k ∧ Hid (Blok wr bN 28 #[.slice A6 n1 c6,.slice A7 n c7,.int .i64 clk,.int .i64 ver,.slice A5 n5 c5]) ∧ Hid (l.length = n5) ∧ Hid (runE F s.b ((contK s ids).take j) = (l,true)) ∧ Hid (wr.ownsRow wA.heap.size 50 4 (.slice A5 n5 c5) n5 (flatBk l)) ∧ Hid (∀ g,(Value.slice A5 n5 c5).ownBlock = some g → g ≠ bN) ∧ Hid (wr.ownsRow w2.heap.size 34 6 (.slice Af k cf) k (flatCo (contK s ids))) ∧ Hid (wr.ownsRow wA.heap.size 34 6 (.slice A6 n1 c6) n1 (flatCo s.p.cs)) ∧ Hid (wr.ownsRow wA.heap.size 36 5 (.slice A7 n c7) n (flatRg s.p.rs)) ∧ Below wA.heap.size wA wr) (fun iv _ => k - (intOf iv).toNat)
     case atStart => exact ⟨0,s.b,A8,nb,c8,rfl,by omega,hN,HLB.out,rfl,hbk,(fun g hg => Nat.ne_of_lt (HN4.out g hg)),hfo,ho1,ho2,hBA⟩
     case round =>
      clear hN hbk hfo ho1 ho2 hBA HN4
      obtain ⟨j,l,A5,n5,c5,rfl,hj,HNB,HL,HRE,HOB,HNE,HOF1,HO1,HO2,hBr⟩:=hrel
      have hBW:=hBW2.trans (hBr.mono hBW2.size)
      have hrl:=runE_ok HFK.out ((contK s ids).take j) s.b HR2.out
      rw [HRE.out] at hrl
      have hrl2:=hrl.2
      have hlb0:=HLB.out
      have hln0:=HL.out
      have hn5:n5 ≤ nb + j:=by
       have h3:((contK s ids).take j).length ≤ j:=by rw [List.length_take]; exact Nat.min_le_left _ _
       have h4:(l,true).1.length = n5:=hln0
       omega
      have HRL:Hid (Kb.rightB l = true):=hrl.1
      clear hrl hrl2 hlb0 hln0
      by_cases hjk:j < k
      ·obtain ⟨gf,cf2,hef,_,_,_,hgf⟩:=own_at HOF1.out (by omega)
       simp only [Value.slice.injEq] at hef
       obtain ⟨rfl,_,rfl⟩:=hef
       obtain ⟨x0,x1,x2,x3,x4,x5⟩:=ownCo_at HOF1.out HFL.out hjk
       obtain ⟨x,hx⟩:∃ x,gCo (contK s ids) j = x:=⟨_,rfl⟩
       rw [hx] at x0 x1 x2 x3 x4 x5
       have HX:=Lib.hid hx
       clear hx
       have hb1:Below wr.heap.size wr (wr.alloc (.cells #[.int .i64 x.id,.int .i64 x.fr,.int .i64 x.tn,.int .i64 x.st,.int .i64 x.en,.int .i64 x.rt] 34)):=(Below.refl _ _).alloc (Nat.le_refl _) _
       have hK:=Blok.new wr 34 #[.int .i64 x.id,.int .i64 x.fr,.int .i64 x.tn,.int .i64 x.st,.int .i64 x.en,.int .i64 x.rt]
       go_upto_region 17 with fail
       have hNB2:=HNB.out.below hb1 HNB.out.lt
       have hB3:=hBr.trans (hb1.mono hBr.size)
       have HOB2:=Lib.hid (own_below HOB.out hb1)
       have HOF2:=Lib.hid (own_below HOF1.out hb1)
       have HO12:=Lib.hid (own_below HO1.out hb1)
       have HO22:=Lib.hid (own_below HO2.out hb1)
       have hBW3:=hBW.trans (hb1.mono hBW.size)
       clear x0 x1 x2 x3 x4 x5 hb1 HNB HOB HOF1 HO1 HO2 hBr hBW
       generalize wr.alloc (.cells #[.int .i64 x.id,.int .i64 x.fr,.int .i64 x.tn,.int .i64 x.st,.int .i64 x.en,.int .i64 x.rt] 34) = w7 at *
       generalize wr.heap.size = bK at *
       obtain ⟨m0,m1,m2,m3,m4,lt_m⟩:=blok5 hNB2
       have k0:w7.cell? ⟨bK,0,none⟩ = some (.int .i64 x.id):=hK.cell 0
       have k1:w7.cell? ⟨bK,1,none⟩ = some (.int .i64 x.fr):=hK.cell 1
       have k2:w7.cell? ⟨bK,2,none⟩ = some (.int .i64 x.tn):=hK.cell 2
       have k3:w7.cell? ⟨bK,3,none⟩ = some (.int .i64 x.st):=hK.cell 3
       have k4:w7.cell? ⟨bK,4,none⟩ = some (.int .i64 x.en):=hK.cell 4
       have k5:w7.cell? ⟨bK,5,none⟩ = some (.int .i64 x.rt):=hK.cell 5
       have lt_k:=hK.lt
       obtain ⟨l2,hl2⟩:∃ z,(F l x).1 = z:=⟨_,rfl⟩
       obtain ⟨o2,ho2⟩:∃ z,(F l x).2 = z:=⟨_,rfl⟩
       have HDD:=(HDO.out w7 hBW3).tells w7 (Below.refl _ _) A5 n5 c5 l x HL.out (by omega) (Sl.of_own HOB2.out) HRL.out
       rw [hl2,ho2] at HDD
       have HDH:=Lib.hid HDD
       have HF1:Hid (F l x = (l2,o2)):=by show F l x = _; rw [← hl2,← ho2]
       clear hK HDD hl2 ho2
       go_wp2_with fail
       refine HDH.out.mono ?_
       rintro e w8 ⟨v,rfl,hown,hb8⟩
       clear m0 m1 m2 m3 m4 lt_m k0 k1 k2 k3 k4 k5 lt_k HDH
       obtain ⟨n6,hn6⟩:∃ z,l2.length = z:=⟨_,rfl⟩
       rw [hn6] at hown
       have HN6:=Lib.hid hn6
       clear hn6
       obtain ⟨A9,c9,rfl⟩:=slice_of_own hown
       have hNB3:=hNB2.below hb8 hNB2.lt
       have hnlt:=hNB2.lt
       have hB8:=hB3.trans (hb8.mono hB3.size)
       have hsz7:=hB3.size
       have hob:=own_down (base':=wA.heap.size) hown hsz7
       have HNE9:Hid (∀ g,(Value.slice A9 n6 c9).ownBlock = some g → g ≠ bN):=fun g hg => by have:=(hown.lt g hg).1; omega
       have hof:=own_below HOF2.out hb8
       have ho1:=own_below HO12.out hb8
       have ho2:=own_below HO22.out hb8
       have hBW8:=hBW3.trans (hb8.mono hBW3.size)
       clear hb8 hown HOB2 HOF2 HO12 HO22 hNB2 hB3 hBW3 HNE
       obtain ⟨m0,m1,m2,m3,m4,lt_m⟩:=blok5 hNB3
       obtain ⟨mf0,mf1,mf2,mf3,mf4⟩:=free5 hNB3
       have hNB4:=hNB3.set_ 4 (.slice A9 n6 c9)
       have hgs:=grown_set (g:=bN) w8 4 (.slice A9 n6 c9)
       have hob4:=own_other hob hgs HNE9.out
       have hof4:=own_other hof hgs (fun g hg => Nat.ne_of_lt (HNF.out g hg))
       have ho14:=own_other ho1 hgs (fun g hg => Nat.ne_of_lt (HN1.out g hg))
       have ho24:=own_other ho2 hgs (fun g hg => Nat.ne_of_lt (HN3.out g hg))
       have hB9:=hB8.setCell (p:=⟨bN,4,none⟩) (by show wA.heap.size ≤ bN; omega) (.slice A9 n6 c9)
       go_upto_region 18 with fail
       clear m0 m1 m2 m3 m4 lt_m mf0 mf1 mf2 mf3 mf4 hob hof ho1 ho2 hNB3 hB8 hgs
       generalize w8.setCell ⟨bN,4,none⟩ (.slice A9 n6 c9) = w9 at *
       have HNB5:Hid (Blok w9 bN 28 #[.slice A6 n1 c6,.slice A7 n c7,.int .i64 clk,.int .i64 ver,.slice A9 n6 c9]):=by show Blok _ _ _ _; simpa using hNB4
       clear hNB4
       have hre:runE F s.b ((contK s ids).take (j + 1)) = (l2,o2):=by
        rw [contK_next (by rw [← HFL.out,contK_len] at hjk; exact hjk),runE_snoc,HRE.out,if_pos rfl,← contK_get (by rw [← HFL.out,contK_len] at hjk; exact hjk),HX.out]
        exact HF1.out
       have HRE2:=Lib.hid hre
       clear hre
       cases o2 with
       | true =>
        go_wp2
        go_roundw
        case rel => exact ⟨j + 1,l2,A9,n6,c9,by go_num,by omega,HNB5,HN6.out,HRE2,hob4,HNE9,hof4,ho14,ho24,hB9⟩
        case measure => simp [intOf]; omega
       | false =>
        have hall2:(runE F s.b (contK s ids)).2 = false:=by
         have h1:=runE_stop F ((contK s ids).take (j + 1)) ((contK s ids).drop (j + 1)) s.b (by rw [HRE2.out])
         rw [List.take_append_drop] at h1
         rw [h1,HRE2.out]
        have hqe:eachQ F s ids cl sz = 8:=by
         unfold eachQ
         rw [if_neg (by rw [HBAD.out]; simp),if_neg (by rw [HALL.out]; simp),if_neg (by rw [hall2]; simp)]
        have hse:s' = s:=by rw [← HSE.out]; unfold eachS; rw [if_neg (by rw [hqe]; simp)]
        have hqq:q = 8:=HQE.out.symm.trans hqe
        subst hqq
        have HSS:=Lib.hid hse
        have hBW:=hBW2.trans (hB9.mono hBW2.size)
        clear hqe hse hall2 hob4 hof4 ho14 ho24 hB9 hBW8
        obtain ⟨p0,p1,p2,p3,p4,lt_p⟩:=blok5 (HPP.out _ hBW)
        have hkk:=HU.out _ hBW
        go_wp2_with fail
        refine (sclone_any A1 n1 c1 A n c clk ver Ab nb cb s w9 hkk).mono ?_
        rintro e x9 ⟨A6,c6,A7,c7,A8,c8,rfl,hv5,hbx⟩
        have hC9:=hBW.trans (hbx.mono hBW.size)
        obtain ⟨ur0,ur1,ur2,ur3,ur4,url⟩:=blok5 (HXX.out _ hC9)
        obtain ⟨uf0,uf1,uf2,uf3,uf4⟩:=free5 (HXX.out _ hC9)
        have hX2:=HXX.out _ hC9
        have hB2:=HB.out.trans (hC9.mono hs)
        have hszW:=hBW.size
        have HCK:=Lib.hid hkk.ck
        have HVR:=Lib.hid hkk.vr
        have HOF:Hid (StOwn x9 (bR + 1) A6 n1 c6 A7 n c7 clk ver A8 nb c8 s):=hv5.down (by omega)
        clear p0 p1 p2 p3 p4 lt_p hbx hC9 hBW hkk
        go_wp2
        obtain ⟨hF,hWf,hgw⟩:=ret5 hX2 hB2 (by omega) (.slice A6 n1 c6) (.slice A7 n c7) (.int .i64 clk) (.int .i64 ver) (.slice A8 nb c8)
        unfold set5 at hF hWf hgw
        have HO:=Lib.hid (StOwn.far HOF.out hgw (fun q hq => by injection hq with hq; omega))
        clear hgw hX2 hB2 HOF ur0 ur1 ur2 ur3 ur4 uf0 uf1 uf2 uf3 uf4
        generalize ((((x9.setCell ⟨bR,0,none⟩ (.slice A6 n1 c6)).setCell ⟨bR,1,none⟩ (.slice A7 n c7)).setCell ⟨bR,2,none⟩ (.int .i64 clk)).setCell ⟨bR,3,none⟩ (.int .i64 ver)).setCell ⟨bR,4,none⟩ (.slice A8 nb c8) = wf at *
        obtain ⟨r0,r1,r2,r3,r4,hlF⟩:=blok5 hF
        go_wp2_with fail
        refine bodyPost_ret (v:=.tuple #[.agg #[.slice A6 n1 c6,.slice A7 n c7,.int .i64 clk,.int .i64 ver,.slice A8 nb c8],.int .i64 8]) (by simp [results,Tryz.results51,go_sem,r0,r1,r2,r3,r4,hlF]) rfl ?_
        have hfin:=HSS.out
        subst hfin
        unfold SRet
        rw [HCK.out,HVR.out]
        exact ⟨_,_,_,_,_,_,_,_,_,rfl,HO.out.down (show w.heap.size ≤ bR + 1 by omega),hWf⟩
      ·obtain rfl:j = k:=by omega
       have hre:=HRE.out
       rw [List.take_of_length_le (by rw [HFL.out]; exact Nat.le_refl _)] at hre
       have hqe:eachQ F s ids cl sz = 0:=by
        unfold eachQ
        rw [if_neg (by rw [HBAD.out]; simp),if_neg (by rw [HALL.out]; simp),if_pos (by rw [hre])]
       have hse:s' = ⟨s.p,l⟩:=by rw [← HSE.out]; unfold eachS; rw [if_pos hqe,hre]
       have hqq:q = 0:=HQE.out.symm.trans hqe
       subst hqq
       have HSS:=Lib.hid hse
       have HOF:Hid (StOwn wr (bR + 1) A6 n1 c6 A7 n c7 clk ver A5 n5 c5 ⟨s.p,l⟩):=⟨⟨HPL.out.l1,HPL.out.l,hn1b,hnb1,own_down HO1.out (by omega),own_down HO2.out (by omega)⟩,HCK.out,HVR.out,HL.out,by omega,own_down HOB.out (by omega)⟩
       obtain ⟨m0,m1,m2,m3,m4,lt_m⟩:=blok5 HNB.out
       obtain ⟨r0,r1,r2,r3,r4,lt_r⟩:=blok5 (HXX.out _ hBW)
       obtain ⟨f0,f1,f2,f3,f4⟩:=free5 (HXX.out _ hBW)
       have hX2:=HXX.out _ hBW
       have hB2:=HB.out.trans (hBW.mono hs)
       clear hqe hse hre HNB HOB HOF1 HO1 HO2 hBr hBW
       go_wp2
       obtain ⟨hF,hWf,hgw⟩:=ret5 hX2 hB2 (by omega) (.slice A6 n1 c6) (.slice A7 n c7) (.int .i64 clk) (.int .i64 ver) (.slice A5 n5 c5)
       unfold set5 at hF hWf hgw
       have HO:=Lib.hid (StOwn.far HOF.out hgw (fun q hq => by injection hq with hq; omega))
       clear hgw hX2 hB2 HOF m0 m1 m2 m3 m4 lt_m r0 r1 r2 r3 r4 lt_r f0 f1 f2 f3 f4
       generalize ((((wr.setCell ⟨bR,0,none⟩ (.slice A6 n1 c6)).setCell ⟨bR,1,none⟩ (.slice A7 n c7)).setCell ⟨bR,2,none⟩ (.int .i64 clk)).setCell ⟨bR,3,none⟩ (.int .i64 ver)).setCell ⟨bR,4,none⟩ (.slice A5 n5 c5) = wf at *
       obtain ⟨r0,r1,r2,r3,r4,hlF⟩:=blok5 hF
       go_wp2_with fail
       refine bodyPost_ret (v:=.tuple #[.agg #[.slice A6 n1 c6,.slice A7 n c7,.int .i64 clk,.int .i64 ver,.slice A5 n5 c5],.int .i64 0]) (by simp [results,Tryz.results51,go_sem,r0,r1,r2,r3,r4,hlF]) rfl ?_
       have hfin:=HSS.out
       subst hfin
       have hck2:(⟨s.p,l⟩:St).p.clk = clk:=HCK.out
       have hvr2:(⟨s.p,l⟩:St).p.ver = ver:=HVR.out
       unfold SRet
       rw [hck2,hvr2]
       exact ⟨_,_,_,_,_,_,_,_,_,rfl,HO.out.down (show w.heap.size ≤ bR + 1 by omega),hWf⟩
end Go.Proofs.YtjldgcebadojiaaGreatDoor
