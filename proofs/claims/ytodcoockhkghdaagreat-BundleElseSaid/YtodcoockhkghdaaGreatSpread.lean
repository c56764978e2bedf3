/- The program's search for the earliest times: spread. It makes new memory alone. -/
import Derived.Test.YtodcoockhkghdaaGreatGQ12
import Derived.Test.YtodcoockhkghdaaGreatGQ18
import Derived.Test.YtodcoockhkghdaaGreatGQ14
import Derived.Test.YtodcoockhkghdaaGreatPath4
import Derived.Deep.LoopGhost
namespace Go.Proofs.YtodcoockhkghdaaGreat
open Go.ChangeShapes Go.WideShapes Go.ChangeAt Go.RowKit Go.Sort Go.Maps Hp
set_option linter.unusedSimpArgs false
set_option linter.unusedVariables false
set_option maxHeartbeats 8000000 in
set_option maxRecDepth 100000 in
theorem espread_any (A:Option Addr) (n c:Nat) (l:List Ed) (q now size:Int) (cb cn:Nat) (sh:List Int) (w:World) (hd:l.length = n) (hn:n ≤ 1000) (hask:askE l q now size = true) (h:Sl w w.heap.size 8 A n c (flatEd l)) (hS:SetW w cb cn (shutE sh q)) :
  Calls Tryz.prog 107 #[.slice A n c,.int .i64 q,.int .i64 now,.int .i64 size,.map (some cb)] w fun e w' => ∃ b nm T,e = .returned (.map (some b)) ∧ MapT w' b nm T ∧ nm ≤ n + 1 ∧ Early l size (shutE sh q) q now T ∧ Below w.heap.size w w':=by
 obtain ⟨hq,⟨h0,h0'⟩,hsz,hre⟩:=askE_spec.1 hask
 have HOK:Hid (∀ k,k < n → (gEd l k).ok = true):=fun k hk => rightE_ok hre (gEd_mem (by omega))
 have HD:=Lib.hid hd
 have HNQ:Hid (shutE sh q q = true):=by
  show (sh ++ [q]).contains q = true
  rw [List.contains_iff_mem]; simp
 obtain ⟨no,hno⟩:∃ f,shutE sh q = f:=⟨_,rfl⟩
 have HNQ2:=HNQ.out
 rw [hno] at hS HNQ2
 have HNOD:=Lib.hid hno
 clear HNQ hno
 have HNQ:=Lib.hid HNQ2
 have HRE:=Lib.hid hre
 have hqw:(Lit.int .i64 q).wf = true:=wfI (by omega)
 clear HNQ2 hask hre hd hsz
 go_enter Tryz.func107,Tryz.ntmps107
 go_wp2_with fail
 refine (jfrom_any A n c l w HD.out hn (fun k hk => (Ed.ok_spec.1 (HOK.out k hk)).2.1) h).mono ?_
 rintro e w0 ⟨cs,rfl,hG,hP,hB0⟩
 have hs0:=hB0.size
 have hglt:=hG.lt
 obtain ⟨mb,hmb⟩:∃ x,w0.heap.size = x:=⟨_,rfl⟩
 have hmk:=run_makeMap0 (P:=Tryz.prog) 152 3 3 Tryz.underlying152 w0
 have hM0:=MapT.made w0
 have hbm:Below w0.heap.size w0 (w0.alloc (.map #[] 0)):=(Below.refl _ _).alloc (Nat.le_refl _) _
 rw [hmb] at hmk hM0 hs0 hglt hbm
 have HP:Hid (∀ w',Below mb w0 w' → Plc w' (w.heap.size + 1) l n cs):=fun w' hb => hP.below (by rw [hmb]; exact hb)
 have HG:Hid (∀ w',Below mb w0 w' → Blok w' w.heap.size 162 cs.toArray):=fun w' hb => hG.below hb hglt
 have HB:Hid (∀ w',Below mb w0 w' → Below w.heap.size w w'):=fun w' hb => hB0.trans (hb.mono hs0)
 have HL:Hid (∀ w',Below mb w0 w' → Sl w' w'.heap.size 8 A n c (flatEd l)):=fun w' hb => h.up (HB.out w' hb)
 have HC:Hid (∀ w',Below mb w0 w' → SetW w' cb cn no):=fun w' hb => hS.below (HB.out w' hb)
 have hcl:=hP.len
 have HCL:=Lib.hid hcl
 clear hcl h hS hP hG hB0
 obtain ⟨w2,hput,hM2,hg2⟩:=hM0.put (by unfold maxLen; omega) hqw now
 rw [oneT_set] at hM2
 have hb2:Below mb w0 w2:=hbm.grown hg2 (by simp; omega) (fun k hk => by injection hk with hk; omega)
 have hR:=own_lit w2 w2.heap.size 150 2 1 #[.int .i64 q,.int .i64 now] (Nat.le_refl _) rfl (by unfold maxLen; omega)
 have hR1:=Sl.of_own hR
 have hb3:Below w2.heap.size w2 (w2.alloc (.cells #[.int .i64 q,.int .i64 now] 150)):=by (repeat (first | exact Below.refl _ _ | refine Below.alloc ?_ (by first | omega | (simp; done) | (simp; omega)) _ | refine Below.setCell ?_ (by first | omega | (simp; done) | (simp; omega)) _ | refine Below.drew ?_))
 have hs3:=hb3.size
 have hmw:=MapV.lt hM2
 have HM2:=Lib.hid hM2
 have HB2:=Lib.hid hb2
 have HHS:=Lib.hid hmb
 clear hmb hM0 hbm hM2 hb2 hg2 hR
 go_wp2_with fail
 clear hmk hput
 refine (new_any _ 1 1 [(q,now)] _ rfl (by omega) hR1.lst).mono ?_
 rintro e w4 ⟨hb,v,d,rfl,hH,hb4⟩
 have hm:IsLeast (q,now) [(q,now)]:=⟨by simp,fun x hx => by rw [List.mem_singleton.1 hx]; exact ahd_irr _⟩
 have HLS0:=Lib.hid hm
 have hH':=hH.lower (B:=mb + 1) (by omega)
 have hM4:MapT w4 mb 1 (oneT q now):=MapV.below HM2.out (hb3.trans (hb4.mono hs3))
 have hB4:Below mb w0 w4:=HB2.out.trans ((hb3.trans (hb4.mono hs3)).mono (by omega))
 clear hm hH hb4 hb3 HM2 HB2 hR1
 go_wp2_with fail
 refine (popC hH' HLS0.out (by simp)).mono ?_
 rintro e w5 ⟨rfl,v5,d5,hH5,hv5,hk5⟩
 have hlow:∀ k,k ≤ mb → ¬ (k = hb ∨ v.ownBlock = some k):=by
  rintro k hk (e | e)
  ·have:=hH'.hb; omega
  ·have:=hH'.own k e; omega
 have hM5:=hM4.keptS hk5 (hlow mb (Nat.le_refl _))
 have hB5:Below mb w0 w5:=hk5.below_of hB4 (Nat.le_of_lt (MapV.lt hM4)) (fun k hk => hlow k (by omega))
 have hW0:=SW.start hM5 hH5 hB5 #[.int .i64 q,.int .i64 now]
 have HW0:=Lib.hid hW0
 have hE0:SeaR l size no q now 1 (oneT q now) ([(q,now)].erase (q,now)) [] q now (1 + 2 * l.length):=SeaE.first.pop HLS0.out
 have HE0:=Lib.hid hE0
 clear hH' hM4 hB4 hH5 hv5 hk5 hlow hM5 hB5 hW0 hE0 HLS0 hs3 hmw
 go_wp2_with fail
 go_loopg [14,15] (1 + 2 * l.length) (fun g rv ov wr => ∃ (b:Bool) (rb nm:Nat) (m t:Int) (T:Int → Option Int) (v:Value) (d H:List (Int × Int)) (X:List Int),rv = .pointer (some ⟨rb,0,none⟩) ∧ ov = .bool b ∧ SW w0 wr mb hb rb nm #[.int .i64 m,.int .i64 t] T v d H ∧ (b = true → SeaR l size no q now nm T H X m t g) ∧ (b = false → nm ≤ l.length + 1 ∧ Early l size no q now T))
 case atStart => exact ⟨true,_,1,q,now,oneT q now,v5,d5,_,[],rfl,rfl,HW0.out,(fun _ => HE0.out),fun h => by cases h⟩
 case round =>
  clear HW0 HE0
  obtain ⟨b,rb,nm,m,t,T,v,d,H,X,rfl,rfl,hW,hT,hF⟩:=hrel
  cases b with
  | false =>
   have HF:=Lib.hid (hF rfl)
   have HW:=Lib.hid hW
   clear hT hF hW
   go_wp2_with fail
   go_ret
   exact ⟨mb,nm,T,rfl,HW.out.map,by have:=HF.out.1; have:=HD.out; omega,by rw [HNOD.out]; exact HF.out.2,HB.out _ HW.out.bl⟩
  | true =>
   have hR:=hT rfl
   clear hT hF
   obtain ⟨u,hu,hle⟩:=hR.told
   have hnode:=(hR.sp.rch m u hu).node HRE.out hq
   have hmw:(Lit.int .i64 m).wf = true:=wfI (by omega)
   have x0:wr.cell? ⟨rb,0,none⟩ = some (.int .i64 m):=hW.box.cell 0
   have x1:wr.cell? ⟨rb,1,none⟩ = some (.int .i64 t):=hW.box.cell 1
   have lt_r:=hW.box.lt
   have hlk:=MapT.look hW.map hmw (show (T m).getD 0 = u by rw [hu]; rfl)
   have HGK:Hid (1 ≤ gk):=by have:=hR.hg; show 1 ≤ gk; omega
   have HW:=Lib.hid hW
   have HR:=Lib.hid hR
   have HU:=Lib.hid hu
   clear hW hR hu
   by_cases hlt:u < t
   ·have hE:=HR.out.stale HU.out hlt
    have HE':=Lib.hid hE
    clear hE
    go_wp2_with fail
    clear x0 x1 lt_r hlk
    have hE:=HE'.out
    clear HE'
    have hgk:=HGK.out
    have hWb:=HW.out.newbox #[.int .i64 m,.int .i64 t]
    by_cases hH0:H = []
    ·subst hH0
     have HE:=Lib.hid hE
     clear hE hgk
     refine (pop_none hb v _ hWb.heap.nil_).mono ?_
     rintro e w6 ⟨rfl,hb6⟩
     have hW6:=hWb.below hb6
     have fr0:=hW6.box.free 0
     have fr1:=hW6.box.free 1
     have q0:=hW6.box.cell 0
     have q1:=hW6.box.cell 1
     have lt_q:=hW6.box.lt
     have HW6:=Lib.hid ((hW6.set 0 (.int .i64 0)).set 1 (.int .i64 0))
     generalize wr.heap.size = rb2 at *
     clear hWb hb6 hW6 HW
     go_wp2_with fail
     go_roundg (gk - 1)
     case measure => clear HW6; have:=HGK.out; omega
     case rel => exact ⟨false,rb2,nm,0,0,T,v,d,[],[],rfl,rfl,HW6.out,(fun h => by cases h),fun _ => ⟨by have:=HE.out.hn; omega,HE.out.done h0⟩⟩
    ·obtain ⟨⟨p1,p2⟩,hp⟩:=least_ex H hH0
     have HE:=Lib.hid hE
     have HPL:=Lib.hid hp
     have hlen:H.length ≤ 1000000:=by have:=hE.hl; have:=HD.out; omega
     clear hE hgk hH0
     refine (popC hWb.heap HPL.out hlen).mono ?_
     rintro e w6 ⟨rfl,v6,d6,hH6,hv6,hk6⟩
     have hW6:=hWb.keep hH6 hk6 (.inl hv6)
     have fr0:=hW6.box.free 0
     have fr1:=hW6.box.free 1
     have q0:=hW6.box.cell 0
     have q1:=hW6.box.cell 1
     have lt_q:=hW6.box.lt
     have HW6:=Lib.hid ((hW6.set 0 (.int .i64 p1)).set 1 (.int .i64 p2))
     generalize wr.heap.size = rb2 at *
     clear hWb hH6 hk6 hv6 hW6 HW hp
     go_wp2_with fail
     go_roundg (gk - 1)
     case measure => clear HW6; have:=HGK.out; omega
     case rel => exact ⟨true,rb2,nm,p1,p2,T,v6,d6,H.erase (p1,p2),X,rfl,rfl,HW6.out,(fun _ => HE.out.pop HPL.out),fun h => by cases h⟩
   ·obtain rfl:u = t:=by omega
    clear hle
    obtain ⟨f,hf⟩:∃ f:Nat,m = (f:Int):=⟨m.toNat,by omega⟩
    subst hf
    have hf2:f < 256:=by omega
    have hRE:RowE l (f:Int) (rowI l n f):=by have:=rowE_of l f; rw [HD.out] at this; exact this
    have hrl:=rowI_len l n f
    obtain ⟨R,hRd⟩:∃ R,rowI l n f = R:=⟨_,rfl⟩
    rw [hRd] at hRE hrl
    obtain ⟨nr,hnr⟩:∃ x,R.length = x:=⟨_,rfl⟩
    rw [hnr] at hrl
    obtain ⟨vr,hvr⟩:∃ v,cellP cs f = v:=⟨_,rfl⟩
    have hrow:=(HP.out wr HW.out.bl).row f hf2
    rw [hvr,hRd,hnr] at hrow
    obtain ⟨Ar,cr,rfl⟩:=slice_of_own hrow
    have HRR:Hid (∀ w',Below mb w0 w' → Sl w' w'.heap.size 1 Ar nr cr (R.map (Value.int .i64))):=fun w' hb => by
     have h:=(HP.out w' hb).row f hf2
     rw [hvr,hRd,hnr] at h
     exact Sl.of_own h
    have hGw:=HG.out wr HW.out.bl
    have pg:wr.cell? ⟨w.heap.size,f,none⟩ = some (.slice Ar nr cr):=by
     rw [hGw.cell f,← hvr]
     have:=cellP_at (cs:=cs) (n:=f) (by have:=HCL.out; omega)
     simpa using this
    have lt_g:=hGw.lt
    have hfI:(f:Int) < 256:=by omega
    have hf0:(0:Int) ≤ (f:Int):=by omega
    have hI0:=HR.out.take HU.out hRE
    have HI0:=Lib.hid hI0
    have HRE2:=Lib.hid hRE
    have HNR:=Lib.hid hnr
    clear hI0 hRE hRd hnr hvr hrow hGw HR HU hnode hmw
    go_wp2_with fail
    clear hlk hlt
    have q_x0:=fun d os => cell_regrown x0 d os
    have q_pg:=fun d os => cell_regrown pg d os
    try simp only [List.append]
    first | refine wp_region_text_below ?_ | refine wp_region_quiet_below (by kernel_rfl) (by kernel_rfl) ?_
    repeat (go_big_quiet_step ((fail)))
    refine wpQuiet_nil ?_
    intro _ hqw
    obtain ⟨pq,hqw⟩:=hqw
    subst hqw
    clear q_x0 q_pg
    have hbel:=below_regrown wr pq.d pq.os
    have hWq:=HW.out.below hbel
    clear hbel x0 x1 pg HW lt_r lt_g
    generalize grow (redrawn wr pq.d) pq.os = wq at *
    clear wr
    go_wp2_with fail
    go_loopw [60] (fun iv wi => ∃ (j nm:Nat) (T:Int → Option Int) (v:Value) (d H:List (Int × Int)),iv = .int .i64 j ∧ j ≤ nr ∧ SW w0 wi mb hb rb nm #[.int .i64 f,.int .i64 u] T v d H ∧ Hid (SeaI l size no q now f u R X gk j nm T H)) (fun iv _ => nr - (intOf iv).toNat)
    case atStart => exact ⟨0,nm,T,v,d,H,rfl,by omega,hWq,HI0⟩
    case round =>
     clear hWq HI0 nm T v d H
     obtain ⟨j,nm,T,v,d,H,rfl,hj,hW,HI⟩:=hrel
     by_cases hjn:j < nr
     ·have hjR:j < R.length:=by rw [HNR.out]; exact hjn
      obtain ⟨adr,rfl,habr,c0⟩:=(HRR.out _ hW.bl).lst.atI HNR.out hjn
      obtain ⟨i,hi,hil',hfr⟩:=HRE2.out.at_ j hjR
      rw [hi] at c0
      have HIE:=Lib.hid hi
      have hil:i < n:=by have:=HD.out; omega
      obtain ⟨ad,rfl,hab,e0,e1,e2,e3,e4,e5,e6,e7⟩:=(HL.out _ hW.bl).lst.atEd HD.out hil
      have hok:=HOK.out i hil
      obtain ⟨x,hx⟩:∃ x,gEd l i = x:=⟨_,rfl⟩
      rw [hx] at e0 e1 e2 e3 e4 e5 e6 e7 hok hfr
      have HX:=Lib.hid hx
      have HOK2:=Lib.hid hok
      have HFR2:=Lib.hid hfr
      have htw:(Lit.int .i64 x.tn).wf = true:=wfI (by have:=(Ed.ok_spec.1 hok).2.2.1; omega)
      have hX:=Blok.new wr 86 #[.int .i64 x.id,.int .i64 x.fr,.int .i64 x.tn,.int .i64 x.op,.int .i64 x.en,.int .i64 x.ra,.int .i64 x.ow,.int .i64 x.ro]
      have hb1:Below wr.heap.size wr (wr.alloc (.cells #[.int .i64 x.id,.int .i64 x.fr,.int .i64 x.tn,.int .i64 x.op,.int .i64 x.en,.int .i64 x.ra,.int .i64 x.ow,.int .i64 x.ro] 86)):=(Below.refl _ _).alloc (Nat.le_refl _) _
      have hWx:=hW.below hb1
      have heb:mb < wr.heap.size:=MapV.lt hW.map
      have HWX:=Lib.hid hWx
      clear hi hfr hok hx hW hWx hb1
      go_upto_region 12 with fail
      clear c0 e0 e1 e2 e3 e4 e5 e6 e7 habr hab
      generalize wr.alloc (.cells #[.int .i64 x.id,.int .i64 x.fr,.int .i64 x.tn,.int .i64 x.op,.int .i64 x.en,.int .i64 x.ra,.int .i64 x.ow,.int .i64 x.ro] 86) = w2 at *
      generalize wr.heap.size = eb at *
      clear wr
      have x0:w2.cell? ⟨eb,0,none⟩ = some (.int .i64 x.id):=hX.cell 0
      have x1:w2.cell? ⟨eb,1,none⟩ = some (.int .i64 x.fr):=hX.cell 1
      have x2:w2.cell? ⟨eb,2,none⟩ = some (.int .i64 x.tn):=hX.cell 2
      have x3:w2.cell? ⟨eb,3,none⟩ = some (.int .i64 x.op):=hX.cell 3
      have x4:w2.cell? ⟨eb,4,none⟩ = some (.int .i64 x.en):=hX.cell 4
      have x5:w2.cell? ⟨eb,5,none⟩ = some (.int .i64 x.ra):=hX.cell 5
      have x6:w2.cell? ⟨eb,6,none⟩ = some (.int .i64 x.ow):=hX.cell 6
      have x7:w2.cell? ⟨eb,7,none⟩ = some (.int .i64 x.ro):=hX.cell 7
      have lt_x:=hX.lt
      have r0:w2.cell? ⟨rb,0,none⟩ = some (.int .i64 f):=HWX.out.box.cell 0
      have r1:w2.cell? ⟨rb,1,none⟩ = some (.int .i64 u):=HWX.out.box.cell 1
      have lt_r:=HWX.out.box.lt
      have HXB:=Lib.hid hX
      obtain ⟨u2,hu2⟩:∃ z,(T x.tn).getD 0 = z:=⟨_,rfl⟩
      obtain ⟨kn,hkn⟩:∃ z,(T x.tn).isSome = z:=⟨_,rfl⟩
      obtain ⟨nb,hnb⟩:∃ z,no x.tn = z:=⟨_,rfl⟩
      have HU2:=Lib.hid hu2
      have HK2:=Lib.hid hkn
      have HNO:=Lib.hid hnb
      clear hu2 hkn hnb hX
      cases hp:x.pass u size with
      | none =>
       have HP2:=Lib.hid hp
       clear hp
       go_wp2_with fail
       refine (hpass_no HP2.out _).mono ?_
       rintro e w3 ⟨rfl,hb3⟩
       clear x0 x1 x2 x3 x4 x5 x6 x7 r0 r1 lt_x lt_r
       have hW3:=HWX.out.below hb3
       have hX3:=HXB.out.below hb3 HXB.out.lt
       have y0:w3.cell? ⟨eb,0,none⟩ = some (.int .i64 x.id):=hX3.cell 0
       have y1:w3.cell? ⟨eb,1,none⟩ = some (.int .i64 x.fr):=hX3.cell 1
       have y2:w3.cell? ⟨eb,2,none⟩ = some (.int .i64 x.tn):=hX3.cell 2
       have y3:w3.cell? ⟨eb,3,none⟩ = some (.int .i64 x.op):=hX3.cell 3
       have y4:w3.cell? ⟨eb,4,none⟩ = some (.int .i64 x.en):=hX3.cell 4
       have y5:w3.cell? ⟨eb,5,none⟩ = some (.int .i64 x.ra):=hX3.cell 5
       have y6:w3.cell? ⟨eb,6,none⟩ = some (.int .i64 x.ow):=hX3.cell 6
       have y7:w3.cell? ⟨eb,7,none⟩ = some (.int .i64 x.ro):=hX3.cell 7
       have lt_y:=hX3.lt
       have hlk2:=MapT.look_ok hW3.map htw HU2.out HK2.out
       have hlc:=(HC.out _ hW3.bl).look htw
       rw [HNO.out] at hlc
       have HW3:=Lib.hid hW3
       have HX3:=Lib.hid hX3
       clear hb3 hW3 hX3
       have hI3:=HI.out.skip hjR HIE.out (by rw [HX.out]; intro s a _ h; rw [HP2.out] at h; cases h)
       have HI3:=Lib.hid hI3
       clear hI3
       go_wp2_with fail
       go_roundw
       case rel => exact ⟨j + 1,nm,T,v,d,H,by go_num,by omega,HW3.out,HI3.out⟩
       case measure => simp [intOf]; omega
      | some p =>
       obtain ⟨s,a⟩:=p
       have HP2:=Lib.hid hp
       clear hp
       go_wp2_with fail
       refine (hpass_yes HP2.out _).mono ?_
       rintro e w3 ⟨rfl,hb3⟩
       clear x0 x1 x2 x3 x4 x5 x6 x7 r0 r1 lt_x lt_r
       have hW3:=HWX.out.below hb3
       have hX3:=HXB.out.below hb3 HXB.out.lt
       have y0:w3.cell? ⟨eb,0,none⟩ = some (.int .i64 x.id):=hX3.cell 0
       have y1:w3.cell? ⟨eb,1,none⟩ = some (.int .i64 x.fr):=hX3.cell 1
       have y2:w3.cell? ⟨eb,2,none⟩ = some (.int .i64 x.tn):=hX3.cell 2
       have y3:w3.cell? ⟨eb,3,none⟩ = some (.int .i64 x.op):=hX3.cell 3
       have y4:w3.cell? ⟨eb,4,none⟩ = some (.int .i64 x.en):=hX3.cell 4
       have y5:w3.cell? ⟨eb,5,none⟩ = some (.int .i64 x.ra):=hX3.cell 5
       have y6:w3.cell? ⟨eb,6,none⟩ = some (.int .i64 x.ow):=hX3.cell 6
       have y7:w3.cell? ⟨eb,7,none⟩ = some (.int .i64 x.ro):=hX3.cell 7
       have lt_y:=hX3.lt
       have hlk2:=MapT.look_ok hW3.map htw HU2.out HK2.out
       have hlc:=(HC.out _ hW3.bl).look htw
       rw [HNO.out] at hlc
       have HW3:=Lib.hid hW3
       have HX3:=Lib.hid hX3
       clear hb3 hW3 hX3
       cases nb with
       | true =>
        have hI3:=HI.out.skip hjR HIE.out (by rw [HX.out]; intro s' a' h; rw [HNO.out] at h; cases h)
        have HI3:=Lib.hid hI3
        clear hI3
        go_wp2_with fail
        go_roundw
        case rel => exact ⟨j + 1,nm,T,v,d,H,by go_num,by omega,HW3.out,HI3.out⟩
        case measure => simp [intOf]; omega
       | false =>
        cases kn with
        | false =>
         have HLS:Hid (lessT T x.tn a = true):=by
          have:=HK2.out
          show lessT T x.tn a = true
          unfold lessT
          cases hT2:T x.tn with
          | none => rfl
          | some y => rw [hT2] at this; cases this
         have hnm:nm < maxLen:=by have:=HI.out.hn; have:=HD.out; unfold maxLen; omega
         obtain ⟨w5,hput,hM5,hg5⟩:=MapT.put HW3.out.map hnm htw a
         have hW5:=HW3.out.put hM5 hg5
         have hX5:=HX3.out.grown hg5 (fun e => by injection e with e; omega)
         have z0:w5.cell? ⟨eb,0,none⟩ = some (.int .i64 x.id):=hX5.cell 0
         have z1:w5.cell? ⟨eb,1,none⟩ = some (.int .i64 x.fr):=hX5.cell 1
         have z2:w5.cell? ⟨eb,2,none⟩ = some (.int .i64 x.tn):=hX5.cell 2
         have z3:w5.cell? ⟨eb,3,none⟩ = some (.int .i64 x.op):=hX5.cell 3
         have z4:w5.cell? ⟨eb,4,none⟩ = some (.int .i64 x.en):=hX5.cell 4
         have z5:w5.cell? ⟨eb,5,none⟩ = some (.int .i64 x.ra):=hX5.cell 5
         have z6:w5.cell? ⟨eb,6,none⟩ = some (.int .i64 x.ow):=hX5.cell 6
         have z7:w5.cell? ⟨eb,7,none⟩ = some (.int .i64 x.ro):=hX5.cell 7
         have lt_z:=hX5.lt
         have HW5:=Lib.hid hW5
         have hHl:H.length < 1000000:=by have:=HI.out.hl; have:=HD.out; omega
         clear hM5 hg5 hW5 hX5 hnm
         go_wp2_with fail
         refine (pushC HW5.out.heap (MapV.lt HW5.out.map) (x.tn,a) hHl).mono ?_
         rintro e w6 ⟨rfl,v6,d6,hH6,hv6,hk6⟩
         have hW6:=HW5.out.keep hH6 hk6 hv6
         have HW6:=Lib.hid hW6
         have hI6:=HI.out.push hjR HIE.out hil' (by rw [HX.out]; exact HOK2.out) (by rw [HX.out]; exact HFR2.out) (by rw [HX.out]; exact HNO.out) HNQ.out (by rw [HX.out]; exact HP2.out) (by rw [HX.out]; exact HLS.out)
         rw [HX.out] at hI6
         have HI6:=Lib.hid hI6
         clear hput hlk2 hlc hH6 hv6 hk6 hW6 hI6 hHl
         go_wp2_with fail
         go_roundw
         case rel => exact ⟨j + 1,nm + 1,setT T x.tn a,v6,d6,_,by go_num,by omega,HW6.out,HI6.out⟩
         case measure => simp [intOf]; omega
        | true =>
         have HTT:Hid (T x.tn = some u2):=by
          have h1:=HK2.out
          have h2:=HU2.out
          show T x.tn = some u2
          cases hT2:T x.tn with
          | none => rw [hT2] at h1; cases h1
          | some y => rw [hT2] at h2; rw [← h2]; rfl
         by_cases hau:a < u2
         ·have HLS:Hid (lessT T x.tn a = true):=by
           show lessT T x.tn a = true
           unfold lessT
           rw [HTT.out]
           exact decide_eq_true hau
          have g0:decide (a < u2) = true:=decide_eq_true hau
          clear hau
          have hnm:nm < maxLen:=by have:=HI.out.hn; have:=HD.out; unfold maxLen; omega
          obtain ⟨w5,hput,hM5,hg5⟩:=MapT.put HW3.out.map hnm htw a
          have hW5:=HW3.out.put hM5 hg5
          have hX5:=HX3.out.grown hg5 (fun e => by injection e with e; omega)
          have z0:w5.cell? ⟨eb,0,none⟩ = some (.int .i64 x.id):=hX5.cell 0
          have z1:w5.cell? ⟨eb,1,none⟩ = some (.int .i64 x.fr):=hX5.cell 1
          have z2:w5.cell? ⟨eb,2,none⟩ = some (.int .i64 x.tn):=hX5.cell 2
          have z3:w5.cell? ⟨eb,3,none⟩ = some (.int .i64 x.op):=hX5.cell 3
          have z4:w5.cell? ⟨eb,4,none⟩ = some (.int .i64 x.en):=hX5.cell 4
          have z5:w5.cell? ⟨eb,5,none⟩ = some (.int .i64 x.ra):=hX5.cell 5
          have z6:w5.cell? ⟨eb,6,none⟩ = some (.int .i64 x.ow):=hX5.cell 6
          have z7:w5.cell? ⟨eb,7,none⟩ = some (.int .i64 x.ro):=hX5.cell 7
          have lt_z:=hX5.lt
          have HW5:=Lib.hid hW5
          have hHl:H.length < 1000000:=by have:=HI.out.hl; have:=HD.out; omega
          clear hM5 hg5 hW5 hX5 hnm
          go_wp2_with fail
          refine (pushC HW5.out.heap (MapV.lt HW5.out.map) (x.tn,a) hHl).mono ?_
          rintro e w6 ⟨rfl,v6,d6,hH6,hv6,hk6⟩
          have hW6:=HW5.out.keep hH6 hk6 hv6
          have HW6:=Lib.hid hW6
          have hI6:=HI.out.push hjR HIE.out hil' (by rw [HX.out]; exact HOK2.out) (by rw [HX.out]; exact HFR2.out) (by rw [HX.out]; exact HNO.out) HNQ.out (by rw [HX.out]; exact HP2.out) (by rw [HX.out]; exact HLS.out)
          rw [HX.out] at hI6
          have HI6:=Lib.hid hI6
          clear hput hlk2 hlc hH6 hv6 hk6 hW6 hI6 hHl
          go_wp2_with fail
          go_roundw
          case rel => exact ⟨j + 1,nm + 1,setT T x.tn a,v6,d6,_,by go_num,by omega,HW6.out,HI6.out⟩
          case measure => simp [intOf]; omega
         ·have HLS:Hid (lessT T x.tn a = false):=by
           show lessT T x.tn a = false
           unfold lessT
           rw [HTT.out]
           exact decide_eq_false hau
          have g0:decide (a < u2) = false:=decide_eq_false hau
          clear hau
          have hI3:=HI.out.skip hjR HIE.out (by rw [HX.out]; intro s' a' _ h; rw [HP2.out] at h; injection h with h; injection h with _ h; rw [← h]; exact HLS.out)
          have HI3:=Lib.hid hI3
          clear hI3
          go_wp2_with fail
          go_roundw
          case rel => exact ⟨j + 1,nm,T,v,d,H,by go_num,by omega,HW3.out,HI3.out⟩
          case measure => simp [intOf]; omega
     ·obtain rfl:j = nr:=by omega
      have HW:=Lib.hid hW
      have hE:SeaE l size no q now nm T H (f :: X) u (gk - 1):=by
       have h:=HI.out
       rw [← HNR.out] at h
       exact h.end_ HRE2.out
      have x0:wr.cell? ⟨rb,0,none⟩ = some (.int .i64 f):=hW.box.cell 0
      have x1:wr.cell? ⟨rb,1,none⟩ = some (.int .i64 u):=hW.box.cell 1
      have lt_r:=hW.box.lt
      have HE':=Lib.hid hE
      clear hE hW HI
      go_wp2_with fail
      clear x0 x1 lt_r
      have hE:=HE'.out
      clear HE'
      have hgk:=HGK.out
      have hWb:=HW.out.newbox #[.int .i64 f,.int .i64 u]
      by_cases hH0:H = []
      ·subst hH0
       have HE:=Lib.hid hE
       clear hE hgk
       refine (pop_none hb v _ hWb.heap.nil_).mono ?_
       rintro e w6 ⟨rfl,hb6⟩
       have hW6:=hWb.below hb6
       have fr0:=hW6.box.free 0
       have fr1:=hW6.box.free 1
       have q0:=hW6.box.cell 0
       have q1:=hW6.box.cell 1
       have lt_q:=hW6.box.lt
       have HW6:=Lib.hid ((hW6.set 0 (.int .i64 0)).set 1 (.int .i64 0))
       generalize wr.heap.size = rb2 at *
       clear hWb hb6 hW6 HW
       go_wp2_with fail
       go_roundg (gk - 1)
       case measure => clear HW6; have:=HGK.out; omega
       case rel => exact ⟨false,rb2,nm,0,0,T,v,d,[],[],rfl,rfl,HW6.out,(fun h => by cases h),fun _ => ⟨by have:=HE.out.hn; omega,HE.out.done h0⟩⟩
      ·obtain ⟨⟨p1,p2⟩,hp⟩:=least_ex H hH0
       have HE:=Lib.hid hE
       have HPL:=Lib.hid hp
       have hlen:H.length ≤ 1000000:=by have:=hE.hl; have:=HD.out; omega
       clear hE hgk hH0
       refine (popC hWb.heap HPL.out hlen).mono ?_
       rintro e w6 ⟨rfl,v6,d6,hH6,hv6,hk6⟩
       have hW6:=hWb.keep hH6 hk6 (.inl hv6)
       have fr0:=hW6.box.free 0
       have fr1:=hW6.box.free 1
       have q0:=hW6.box.cell 0
       have q1:=hW6.box.cell 1
       have lt_q:=hW6.box.lt
       have HW6:=Lib.hid ((hW6.set 0 (.int .i64 p1)).set 1 (.int .i64 p2))
       generalize wr.heap.size = rb2 at *
       clear hWb hH6 hk6 hv6 hW6 HW hp
       go_wp2_with fail
       go_roundg (gk - 1)
       case measure => clear HW6; have:=HGK.out; omega
       case rel => exact ⟨true,rb2,nm,p1,p2,T,v6,d6,H.erase (p1,p2),(f :: X),rfl,rfl,HW6.out,(fun _ => HE.out.pop HPL.out),fun h => by cases h⟩
end Go.Proofs.YtodcoockhkghdaaGreat
