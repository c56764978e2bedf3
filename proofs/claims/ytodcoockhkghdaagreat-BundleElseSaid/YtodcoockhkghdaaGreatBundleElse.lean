/- What is booked on a contact that a route does not go by leaves that the best one: BundleElse returns true. No condition. -/
import Derived.Test.YtodcoockhkghdaaGreatRows
import Derived.Test.YtodcoockhkghdaaGreatSmall20
import Derived.Test.YtodcoockhkghdaaGreatGQ35
import Derived.Test.YtodcoockhkghdaaGreatGQ5
import Derived.Test.YtodcoockhkghdaaGreatGQ36
import Derived.BigQuiet
import Derived.Deep.QuietTactic
import Derived.Test.YtodcoockhkghdaaGreatBundle
import Derived.Test.YtodcoockhkghdaaGreatGQ37
import Derived.Test.YtodcoockhkghdaaGreatGQ25
import Derived.Test.YtodcoockhkghdaaGreatGQ11
import Derived.Test.YtodcoockhkghdaaGreatGQ23
namespace Go.Proofs.YtodcoockhkghdaaGreat
open Go.ChangeShapes Go.WideShapes Go.ChangeAt Go.RowKit Go.Sort Go.Maps Hp Kv
set_option linter.unusedSimpArgs false
set_option linter.unusedVariables false
set_option maxHeartbeats 16000000 in
set_option maxRecDepth 100000 in
theorem bundleElse_w (A1:Option Addr) (n1 c1:Nat) (cs:List Co) (A:Option Addr) (n c:Nat) (rs:List Rg) (clk ver:Int) (A2:Option Addr) (n2 c2:Nat) (bk:List Bk) (fr tn si cl de:Int) (k:Int) (class_:Int) (size:Int) (w:World) (hd1:cs.length = n1) (hd:rs.length = n) (hd2:bk.length = n2) (h1:Sl w w.heap.size 6 A1 n1 c1 (flatCo cs)) (h:Sl w w.heap.size 5 A n c (flatRg rs)) (h2:Sl w w.heap.size 4 A2 n2 c2 (flatBk bk)) :
  Calls Tryz.prog 8 #[.agg #[.slice A1 n1 c1,.slice A n c,.int .i64 clk,.int .i64 ver],.slice A2 n2 c2,.agg #[.int .i64 fr,.int .i64 tn,.int .i64 si,.int .i64 cl,.int .i64 de],.int .i64 k,.int .i64 class_,.int .i64 size] w fun e w' => e = .returned (.bool true) ∧ Below w.heap.size w w':=by
 have hP:=(Blok.new w 25 #[.slice A1 n1 c1,.slice A n c,.int .i64 clk,.int .i64 ver]).alloc (.cells #[.int .i64 fr,.int .i64 tn,.int .i64 si,.int .i64 cl,.int .i64 de] 28)
 have hQ:=Blok.new (w.alloc (.cells #[.slice A1 n1 c1,.slice A n c,.int .i64 clk,.int .i64 ver] 25)) 28 #[.int .i64 fr,.int .i64 tn,.int .i64 si,.int .i64 cl,.int .i64 de]
 have hB:Below w.heap.size w ((w.alloc (.cells #[.slice A1 n1 c1,.slice A n c,.int .i64 clk,.int .i64 ver] 25)).alloc (.cells #[.int .i64 fr,.int .i64 tn,.int .i64 si,.int .i64 cl,.int .i64 de] 28)):=by (repeat (first | exact Below.refl _ _ | refine Below.alloc ?_ (by first | omega | (simp; done) | (simp; omega)) _ | refine Below.setCell ?_ (by first | omega | (simp; done) | (simp; omega)) _ | refine Below.drew ?_))
 rw [World.size_alloc] at hQ
 have HD1:=Lib.hid hd1
 have HD:=Lib.hid hd
 have HL1:=Lib.hid (fun w' (hb:Below w.heap.size w w') => h1.up hb)
 have HL:=Lib.hid (fun w' (hb:Below w.heap.size w w') => h.up hb)
 have HD2:=Lib.hid hd2
 have HL2:=Lib.hid (fun w' (hb:Below w.heap.size w w') => h2.up hb)
 clear hd1 hd h1 h hd2 h2
 go_enter Tryz.func8,Tryz.ntmps8
 go_wp2_with fail
 generalize (w.alloc (.cells #[.slice A1 n1 c1,.slice A n c,.int .i64 clk,.int .i64 ver] 25)).alloc (.cells #[.int .i64 fr,.int .i64 tn,.int .i64 si,.int .i64 cl,.int .i64 de] 28) = w0 at *
 refine (small20_any w0).mono ?_
 rintro e w1 ⟨rfl,hb⟩
 replace hP:=hP.below hb hP.lt
 replace hQ:=hQ.below hb hQ.lt
 replace hB:=hB.trans (hb.mono hB.size)
 clear hb
 obtain ⟨sm,hsm⟩:∃ z,smallP cs rs clk ver bk = z:=⟨_,rfl⟩
 have HSM:=Lib.hid hsm
 clear hsm
 obtain ⟨hP_c0,hP_c1,hP_c2,hP_c3,hP_lt⟩:=hP.cells4
 go_wp2_with fail
 try clear hP_c0 hP_c1 hP_c2 hP_c3 hP_lt
 refine (Small20_any A1 n1 c1 cs A n c rs clk ver A2 n2 c2 bk w1 HD1.out HD.out HD2.out (HL1.out _ hB) (HL.out _ hB) (HL2.out _ hB) sm HSM.out).mono ?_
 rintro e wk1 ⟨rfl,hb⟩
 replace hP:=hP.below hb hP.lt
 replace hQ:=hQ.below hb hQ.lt
 replace hB:=hB.trans (hb.mono hB.size)
 clear hb
 cases sm with
 | false =>
  go_wp2_with fail
  go_ret
  exact ⟨rfl,hB⟩
 | true =>
  obtain ⟨⟨hk1,hk2,hk3⟩,hrp,hrb⟩:=smallP_spec.1 HSM.out
  rw [HD1.out] at hk1
  rw [HD.out] at hk2
  rw [HD2.out] at hk3
  have HRP:=Lib.hid hrp
  have HRB:=Lib.hid hrb
  clear hrp hrb
  clear HSM
  by_cases hG:k < 0 ∨ (n1:Int) ≤ k ∨ 40 < n2
  ·have hG':(k < 0) ∨ (¬ k < 0 ∧ (n1:Int) ≤ k) ∨ (¬ k < 0 ∧ ¬ (n1:Int) ≤ k ∧ 40 < n2):=by omega
   clear hG
   obtain ⟨hP_c0,hP_c1,hP_c2,hP_c3,hP_lt⟩:=hP.cells4
   rcases hG' with g0 | ⟨g0,g1⟩ | ⟨g0,g1,g2⟩
   all_goals
    go_wp2_with fail
    go_ret
    exact ⟨rfl,hB⟩
  have hl0:¬ k < 0:=by omega
  have hl1:¬ (n1:Int) ≤ k:=by omega
  have hl2:n2 ≤ 40:=by omega
  clear hG
  obtain ⟨j,rfl⟩:∃ j:Nat,k = (j:Int):=⟨k.toNat,by omega⟩
  have hj:j < n1:=by omega
  obtain ⟨bo,hbo⟩:∃ z,bundleB fr tn si cl de = z:=⟨_,rfl⟩
  obtain ⟨x,hx⟩:∃ z,gCo cs j = z:=⟨_,rfl⟩
  obtain ⟨bb,hbb⟩:∃ z,Kb.bookB bk (ctOf x) class_ size = z:=⟨_,rfl⟩
  obtain ⟨bm,hbm⟩:∃ z,Kb.bookL bk (ctOf x) class_ size = z:=⟨_,rfl⟩
  obtain ⟨nm,hnm⟩:∃ z,bm.length = z:=⟨_,rfl⟩
  have HBO:=Lib.hid hbo
  have HX:=Lib.hid hx
  have HBB:=Lib.hid hbb
  have HBM:=Lib.hid hbm
  have HNM:=Lib.hid hnm
  clear hbo hx hbb hbm hnm
  obtain ⟨or,hor⟩:∃ o,bestX (edgesX rs bk cl cs) fr tn clk si de [] = o:=⟨_,rfl⟩
  obtain ⟨Hr,hHr⟩:∃ z,bestH (buX bo or) = z:=⟨_,rfl⟩
  obtain ⟨tr,htr⟩:∃ z,bestV (buX bo or) = z:=⟨_,rfl⟩
  obtain ⟨mr,hmr⟩:∃ z,Hr.length = z:=⟨_,rfl⟩
  obtain ⟨er,her⟩:∃ z,buE bo or = z:=⟨_,rfl⟩
  have HOr:=Lib.hid hor
  have HHr:=Lib.hid hHr
  have HTr:=Lib.hid htr
  have HMr:=Lib.hid hmr
  have HEr:=Lib.hid her
  clear hor hHr htr hmr her
  obtain ⟨hP_c0,hP_c1,hP_c2,hP_c3,hP_lt⟩:=hP.cells4
  obtain ⟨hQ_c0,hQ_c1,hQ_c2,hQ_c3,hQ_c4,hQ_lt⟩:=hQ.cells5
  go_wp2_with fail
  try clear hP_c0 hP_c1 hP_c2 hP_c3 hP_lt hQ_c0 hQ_c1 hQ_c2 hQ_c3 hQ_c4 hQ_lt
  refine (buroute_of sortEd_any A1 n1 c1 cs A n c rs clk ver A2 n2 c2 bk fr tn si cl de wk1 HD1.out (by omega) HD.out (by omega) HD2.out (by omega) (HL1.out _ hB) (HL.out _ hB) (HL2.out _ hB) HRP.out.co HRP.out.rg HRB.out bo HBO.out or HOr.out Hr HHr.out tr HTr.out mr HMr.out er HEr.out).mono ?_
  rintro e wk2 ⟨Ar,cr_,rfl,wr,hb⟩
  have sr:=Sl.of_own wr
  clear wr 
  replace hP:=hP.below hb hP.lt
  replace hQ:=hQ.below hb hQ.lt
  replace hB:=hB.trans (hb.mono hB.size)
  clear hb
  go_upto_region 6 with fail
  have hb:Below wk2.heap.size wk2 (wk2.alloc (.cells #[.slice Ar mr cr_,.int .i64 tr] 31)):=(Below.refl _ _).alloc (Nat.le_refl _) _
  have xr:=Blok.new wk2 31 #[.slice Ar mr cr_,.int .i64 tr]
  obtain ⟨bxr,hbxr⟩:∃ q,wk2.heap.size = q:=⟨_,rfl⟩
  have hsxr:(wk2.alloc (.cells #[.slice Ar mr cr_,.int .i64 tr] 31)).heap.size = bxr + 1:=by rw [← hbxr]; simp
  replace sr:=sr.up hb
  replace hP:=hP.below hb hP.lt
  replace hQ:=hQ.below hb hQ.lt
  replace hB:=hB.trans (hb.mono hB.size)
  clear hb
  generalize wk2.alloc (.cells #[.slice Ar mr cr_,.int .i64 tr] 31) = wk3 at *
  rw [hbxr] at xr
  try rw [hbxr]
  clear hbxr
  obtain ⟨aC,hA,hab,k0,k1,k2,k3,k4,k5⟩:=(HL1.out _ hB).lst.atCo HD1.out hj
  subst hA
  rw [HX.out] at k0 k1 k2 k3 k4 k5
  have hl1b:¬ n1 ≤ j:=by omega
  have hjI:(j:Int) < (n1:Int):=by omega
  try clear hsxr
  obtain ⟨hP_c0,hP_c1,hP_c2,hP_c3,hP_lt⟩:=hP.cells4
  go_wp2_with fail
  try clear hP_c0 hP_c1 hP_c2 hP_c3 hP_lt
  clear k0 k1 k2 k3 k4 k5 hab
  refine (Kb.book_any A2 n2 c2 bk (ctOf x) class_ size wk3 HD2.out (by omega) (HL2.out _ hB) HRB.out bb HBB.out bm HBM.out).mono ?_
  rintro e wk4 ⟨v,rfl,wm,hb⟩
  replace sr:=sr.up hb
  replace hP:=hP.below hb hP.lt
  replace hQ:=hQ.below hb hQ.lt
  replace xr:=xr.below hb xr.lt
  replace hB:=hB.trans (hb.mono hB.size)
  clear hb
  rw [HNM.out] at wm
  obtain ⟨Am,cm,rfl⟩:=slice_of_own wm
  have sM:=Sl.of_own wm
  clear wm
  have hnm2:nm ≤ 51:=by
   have h:=Kb.bookL_len bk (ctOf x) class_ size
   rw [HBM.out,HNM.out,HD2.out] at h
   omega
  cases bo with
  | false =>
   obtain rfl:er = 1:=HEr.out.symm
   go_wp2_with fail
   go_ret
   exact ⟨rfl,hB⟩
  | true =>
   rcases or with _ | p
   ·obtain rfl:er = 6:=HEr.out.symm
    obtain rfl:tr = 0:=HTr.out.symm
    obtain rfl:Hr = []:=HHr.out.symm
    obtain rfl:mr = 0:=HMr.out.symm
    go_wp2_with fail
    go_ret
    exact ⟨rfl,hB⟩
   obtain rfl:er = 0:=HEr.out.symm
   cases bb with
   | false =>
    go_wp2_with fail
    go_ret
    exact ⟨rfl,hB⟩
   | true =>
    have hml:mr ≤ 1000000:=by
     have h1:=bestX_len HOr.out
     have h2:=edgesX_len rs bk cl cs
     have h3:p.1 = Hr:=HHr.out
     rw [h3,HMr.out] at h1
     rw [HD1.out] at h2
     omega
    obtain ⟨ids,hids⟩:∃ z,Hr.map Hp.id = z:=⟨_,rfl⟩
    have HIDS:=Lib.hid hids
    clear hids
    obtain ⟨xr_c0,xr_c1,xr_lt⟩:=xr.cells2
    go_wp2_with fail
    try clear xr_c0 xr_c1 xr_lt
    refine (pids_v Ar mr cr_ Hr tr wk4 HMr.out hml sr ids HIDS.out).mono ?_
    rintro e wk5 ⟨Ai,ci,rfl,hil,sI,hb⟩
    replace sr:=sr.up hb
    replace sM:=sM.up hb
    replace hP:=hP.below hb hP.lt
    replace hQ:=hQ.below hb hQ.lt
    replace xr:=xr.below hb xr.lt
    replace hB:=hB.trans (hb.mono hB.size)
    clear hb
    have HIL:=Lib.hid hil
    clear hil
    have Fsr:=Lib.hid (fun w' (hb:Below wk5.heap.size wk5 w') => sr.up hb)
    have FsM:=Lib.hid (fun w' (hb:Below wk5.heap.size wk5 w') => sM.up hb)
    have FsI:=Lib.hid (fun w' (hb:Below wk5.heap.size wk5 w') => sI.up hb)
    have FhP:=Lib.hid (fun w' (hb:Below wk5.heap.size wk5 w') => hP.below hb hP.lt)
    have FhQ:=Lib.hid (fun w' (hb:Below wk5.heap.size wk5 w') => hQ.below hb hQ.lt)
    have Fxr:=Lib.hid (fun w' (hb:Below wk5.heap.size wk5 w') => xr.below hb xr.lt)
    have HBA:=Lib.hid hB
    clear sr sM sI hP hQ xr hB
    go_wp2_with fail
    go_loopw [20] (fun iv wr => ∃ (i:Nat),iv = .int .i64 (i:Int) ∧ i ≤ mr ∧ Hid (∀ q,q < i → ids.getD q 0 ≠ x.id) ∧ Below wk5.heap.size wk5 wr) (fun iv _ => mr - (intOf iv).toNat)
    case atStart => exact ⟨0,rfl,by omega,(fun q hq => by omega),Below.refl _ _⟩
    case round =>
     obtain ⟨i,rfl,hi,HN,hBr⟩:=hrel
     have hs5:=hBr.size
     by_cases him:i < mr
     ·obtain ⟨y,hy⟩:∃ y,ids.getD i 0 = y:=⟨_,rfl⟩
      obtain ⟨ad,hA,hab,c0⟩:=(FsI.out _ hBr).lst.atI HIL.out him
      obtain ⟨ae,hA2,hab2,d0,_⟩:=(HL1.out _ (HBA.out.trans (hBr.mono HBA.out.size))).lst.atCo HD1.out hj
      subst hA
      injection hA2 with hA2
      subst hA2
      rw [hy] at c0
      rw [HX.out] at d0
      have p0:wr.cell? ⟨w.heap.size,0,none⟩ = some (.slice (some aC) n1 c1):=(FhP.out _ hBr).cell 0
      have HY:=Lib.hid hy
      have hiI:(i:Int) < (mr:Int):=by omega
      obtain ⟨z,hz⟩:∃ z,(y == x.id) = z:=⟨_,rfl⟩
      have HZ:=Lib.hid hz
      clear hy
      go_wp2_with fail
      have q_c0:=fun d os => cell_regrown c0 d os
      have q_d0:=fun d os => cell_regrown d0 d os
      have q_p0:=fun d os => cell_regrown p0 d os
      try simp only [List.append]
      first | refine wp_region_text_below ?_ | refine wp_region_quiet_below (by kernel_rfl) (by kernel_rfl) ?_
      repeat (go_big_quiet_step ((fail)))
      refine wpQuiet_nil ?_
      intro _ hqw
      obtain ⟨pq,hqw⟩:=hqw
      subst hqw
      clear q_c0 q_d0 q_p0
      have hbel:=below_regrown wr pq.d pq.os
      replace hBr:=hBr.trans (hbel.mono hs5)
      clear hbel c0 d0 p0 hab hab2 hz
      generalize grow (redrawn wr pq.d) pq.os = wq at *
      cases z with
      | false =>
       have HN2:Hid (∀ q,q < i + 1 → ids.getD q 0 ≠ x.id):=fun q hq hc => by
        by_cases e:q = i
        ·subst e
         have h1:=HZ.out
         rw [← HY.out,hc] at h1
         simp at h1
        ·exact HN.out q (by omega) hc
       go_wp2_with fail
       go_roundw
       case rel => exact ⟨i + 1,by go_num,by omega,HN2,hBr⟩
       case measure => simp [intOf]; omega
      | true =>
       have hBf:=HBA.out.trans (hBr.mono HBA.out.size)
       go_wp2_with fail
       go_ret
       exact ⟨rfl,hBf⟩
     ·obtain rfl:mr = i:=by omega
      have hnk:(ctOf x).id ∉ p.1.map Hp.id:=fun hc => by
       rw [show p.1 = Hr from HHr.out,HIDS.out] at hc
       obtain ⟨q,hq,he⟩:=mem_getDI hc
       exact HN.out q (by rw [← HIL.out]; exact hq) he
      have hos:=else_book (c0:=ctOf x) (cl':=class_) (sz:=size) HRP.out.co HRP.out.rg HRB.out (by
       obtain ⟨_,_,_,h4,_⟩:=bundleB_spec.1 HBO.out
       unfold inB
       exact decide_eq_true h4) HRP.out.c0 (edges_ask HRP.out (Kb.book_right HRB.out) HBO.out) HOr.out hnk
      rw [HBM.out] at hos
      have hbr:Kb.rightB bm = true:=by rw [← HBM.out]; exact Kb.book_right HRB.out
      have HOS0:=Lib.hid hos
      have HBR:=Lib.hid hbr
      clear hos hbr
      clear hnk HN
      obtain ⟨os,hos⟩:∃ o,bestX (edgesX rs bm cl cs) fr tn clk si de [] = o:=⟨_,rfl⟩
      obtain ⟨Hs,hHs⟩:∃ z,bestH (buX true os) = z:=⟨_,rfl⟩
      obtain ⟨ts,hts⟩:∃ z,bestV (buX true os) = z:=⟨_,rfl⟩
      obtain ⟨ms,hms⟩:∃ z,Hs.length = z:=⟨_,rfl⟩
      obtain ⟨es,hes⟩:∃ z,buE true os = z:=⟨_,rfl⟩
      have HOs:=Lib.hid hos
      have HHs:=Lib.hid hHs
      have HTs:=Lib.hid hts
      have HMs:=Lib.hid hms
      have HEs:=Lib.hid hes
      clear hos hHs hts hms hes
      have sr:=Fsr.out _ hBr
      have sM:=FsM.out _ hBr
      have sI:=FsI.out _ hBr
      have hP:=FhP.out _ hBr
      have hQ:=FhQ.out _ hBr
      have xr:=Fxr.out _ hBr
      have hB:=HBA.out.trans (hBr.mono HBA.out.size)
      clear hBr
      obtain ⟨wA,hwA⟩:∃ z,z = wr:=⟨_,rfl⟩
      subst hwA
      obtain ⟨hP_c0,hP_c1,hP_c2,hP_c3,hP_lt⟩:=hP.cells4
      obtain ⟨hQ_c0,hQ_c1,hQ_c2,hQ_c3,hQ_c4,hQ_lt⟩:=hQ.cells5
      go_wp2_with fail
      try clear hP_c0 hP_c1 hP_c2 hP_c3 hP_lt hQ_c0 hQ_c1 hQ_c2 hQ_c3 hQ_c4 hQ_lt
      refine (buroute_of sortEd_any (some aC) n1 c1 cs A n c rs clk ver Am nm cm bm fr tn si cl de wA HD1.out (by omega) HD.out (by omega) HNM.out (by omega) (HL1.out _ hB) (HL.out _ hB) sM HRP.out.co HRP.out.rg HBR.out true HBO.out os HOs.out Hs HHs.out ts HTs.out ms HMs.out es HEs.out).mono ?_
      rintro e wk6 ⟨As,cs_,rfl,ws,hb⟩
      have ss:=Sl.of_own ws
      clear ws 
      replace sr:=sr.up hb
      replace sM:=sM.up hb
      replace sI:=sI.up hb
      replace hP:=hP.below hb hP.lt
      replace hQ:=hQ.below hb hQ.lt
      replace xr:=xr.below hb xr.lt
      replace hB:=hB.trans (hb.mono hB.size)
      clear hb
      obtain rfl:os = some p:=HOs.out.symm.trans HOS0.out
      obtain rfl:es = 0:=HEs.out.symm
      obtain rfl:tr = ts:=HTr.out.symm.trans HTs.out
      obtain rfl:Hr = Hs:=HHr.out.symm.trans HHs.out
      have hms:ms ≤ 1000000:=by have h1:=HMr.out; have h2:=HMs.out; omega
      go_upto_region 16 with fail
      have hb:Below wk6.heap.size wk6 (wk6.alloc (.cells #[.slice As ms cs_,.int .i64 tr] 31)):=(Below.refl _ _).alloc (Nat.le_refl _) _
      have xs:=Blok.new wk6 31 #[.slice As ms cs_,.int .i64 tr]
      obtain ⟨bxs,hbxs⟩:∃ q,wk6.heap.size = q:=⟨_,rfl⟩
      have hsxs:(wk6.alloc (.cells #[.slice As ms cs_,.int .i64 tr] 31)).heap.size = bxs + 1:=by rw [← hbxs]; simp
      replace sr:=sr.up hb
      replace sM:=sM.up hb
      replace sI:=sI.up hb
      replace ss:=ss.up hb
      replace hP:=hP.below hb hP.lt
      replace hQ:=hQ.below hb hQ.lt
      replace xr:=xr.below hb xr.lt
      replace hB:=hB.trans (hb.mono hB.size)
      clear hb
      generalize wk6.alloc (.cells #[.slice As ms cs_,.int .i64 tr] 31) = wk7 at *
      rw [hbxs] at xs
      try rw [hbxs]
      clear hbxs
      try clear hsxs
      obtain ⟨xr_c0,xr_c1,xr_lt⟩:=xr.cells2
      obtain ⟨xs_c0,xs_c1,xs_lt⟩:=xs.cells2
      go_wp2_with fail
      try clear xr_c0 xr_c1 xr_lt xs_c0 xs_c1 xs_lt
      refine (psame_any Ar As mr cr_ ms cs_ Hr Hr tr tr wk7 HMr.out HMs.out hml hms sr ss true (by simp)).mono ?_
      rintro e wk8 ⟨rfl,hb⟩
      replace sr:=sr.up hb
      replace sM:=sM.up hb
      replace sI:=sI.up hb
      replace ss:=ss.up hb
      replace hP:=hP.below hb hP.lt
      replace hQ:=hQ.below hb hQ.lt
      replace xr:=xr.below hb xr.lt
      replace xs:=xs.below hb xs.lt
      replace hB:=hB.trans (hb.mono hB.size)
      clear hb
      go_wp2_with fail
      go_ret
      exact ⟨rfl,hB⟩
theorem bundleElse_walk (A1:Option Addr) (n1 c1:Nat) (ns1:List Int) (A:Option Addr) (n c:Nat) (ns:List Int) (clk ver:Int) (A2:Option Addr) (n2 c2:Nat) (ns2:List Int) (fr tn si cl de:Int) (k:Int) (class_:Int) (size:Int) (hnl1:ns1.length = n1 * 6) (_:∀ m ∈ ns1,(Lit.int .i64 m).wf = true) (hnl:ns.length = n * 5) (_:∀ m ∈ ns,(Lit.int .i64 m).wf = true) (_:(Lit.int .i64 clk).wf = true) (_:(Lit.int .i64 ver).wf = true) (hnl2:ns2.length = n2 * 4) (_:∀ m ∈ ns2,(Lit.int .i64 m).wf = true) (_:∀ m ∈ [fr,tn,si,cl,de],(Lit.int .i64 m).wf = true) (_:(Lit.int .i64 k).wf = true) (_:(Lit.int .i64 class_).wf = true) (_:(Lit.int .i64 size).wf = true) (w:World) (h1:Sl w w.heap.size 6 A1 n1 c1 (ns1.map (Value.int .i64))) (h:Sl w w.heap.size 5 A n c (ns.map (Value.int .i64))) (h2:Sl w w.heap.size 4 A2 n2 c2 (ns2.map (Value.int .i64))) :
  Calls Tryz.prog 8 #[.agg #[.slice A1 n1 c1,.slice A n c,.int .i64 clk,.int .i64 ver],.slice A2 n2 c2,.agg #[.int .i64 fr,.int .i64 tn,.int .i64 si,.int .i64 cl,.int .i64 de],.int .i64 k,.int .i64 class_,.int .i64 size] w fun e w' => e = .returned (.bool true) ∧ Below w.heap.size w w':=by
 obtain ⟨cs,hd1,hf1⟩:=rowsCo_of n1 ns1 hnl1
 obtain ⟨rs,hd,hf⟩:=rowsRg_of n ns hnl
 rw [hf1] at h1
 rw [hf] at h
 obtain ⟨bk,hd2,hf2⟩:=rowsBk_of n2 ns2 hnl2
 rw [hf2] at h2
 exact bundleElse_w A1 n1 c1 cs A n c rs clk ver A2 n2 c2 bk fr tn si cl de k class_ size w hd1 hd hd2 h1 h h2
theorem bundleElse_own:ownKnob Tryz.prog.godebug = none:=by kernel_rfl
theorem bundleElse_laidOut:laidOutB Tryz.prog = true:=by kernel_rfl

set_option maxHeartbeats 1000000 in
set_option maxRecDepth 100000 in
theorem bundleElse_lifted (os:Os) (started:os.Started) (H:Type) (enc:TypeId × Value → H) :
  ReturnsInHanded {} Tryz.checked os 8 .any (Rows.bundleElseSpec.pre6 enc Tryz.prog Tryz.f8 Rows.bundleElseRow.domain false) (Rows.bundleElseSpec.post enc Tryz.prog Tryz.f8 false true false false):=by
 refine returnsInHanded_of_change (C:=Tryz.checked) bundleElse_own started (by kernel_rfl) Tryz.func8
  (ChangeSpec.witness6 (enc:=enc) (C:=Tryz.checked) false ⟨#[],#[.agg #[.slice none 0 0,.slice none 0 0,.int .i64 0,.int .i64 0],.slice none 0 0,.agg #[.int .i64 0,.int .i64 0,.int .i64 0,.int .i64 0,.int .i64 0],.int .i64 0,.int .i64 0,.int .i64 0],[]⟩ 8 (by kernel_rfl) (by kernel_rfl) (by kernel_rfl) (by kernel_rfl)) ?_
 intro W base args ds gs before hval0 hW hcnd _
 have hval:∀ (j:Nat) t v,Tryz.f8.params[j]? = some t → args[j]? = some v → Value.okWide Tryz.prog W .any base t v:=hval0
 have hW':=hW
 obtain ⟨p,q,hA0,hV,rfl,hfz,hnd⟩:=hW
 have hA:DataW.TrodAll enc Tryz.prog W 0 (fun _ => true) true Tryz.f8.params.toList args.toList ds p:=hA0
 rw [Tryz.params8] at hA hval
 obtain ⟨v0,vs0,d0,ds0,p0,q0,hargs,rfl,rfl,h0,r0⟩:=trodAll_cons hA
 obtain ⟨v1,vs1,d1,ds1,p1,q1,rfl,rfl,rfl,h1,r1⟩:=trodAll_cons r0
 obtain ⟨v2,vs2,d2,ds2,p2,q2,rfl,rfl,rfl,h2,r2⟩:=trodAll_cons r1
 obtain ⟨v3,vs3,d3,ds3,p3,q3,rfl,rfl,rfl,h3,r3⟩:=trodAll_cons r2
 obtain ⟨v4,vs4,d4,ds4,p4,q4,rfl,rfl,rfl,h4,r4⟩:=trodAll_cons r3
 obtain ⟨v5,vs5,d5,ds5,p5,q5,rfl,rfl,rfl,h5,r5⟩:=trodAll_cons r4
 obtain ⟨rfl,rfl,rfl⟩:=trodAll_nil r5
 obtain rfl:args = #[v0,v1,v2,v3,v4,v5]:=by cases args; simp_all
 obtain ⟨rfl,rfl⟩:=trodVars_none hV
 obtain ⟨A0,n0,c0,ns0,B0,m0,k0,ms0,x0,y0,rfl,hl0,nl0,w0,hm0,ml0,wm0,wx0,wy0⟩:=open_plan 4 (e0:=59) (e1:=100) (K0:=6) (K1:=5) Tryz.underlying25 (by kernel_rfl) (by kernel_rfl) (by kernel_rfl) (by kernel_rfl) (by kernel_rfl) (by kernel_rfl) (by kernel_rfl) (by kernel_rfl) (by omega) (by kernel_rfl) (by omega) (hval 0 25 v0 rfl rfl) h0
 obtain ⟨A1,n1,c1,ns1,rfl,hl1,nl1,w1⟩:=open_rowsS 4 (K:=4) Tryz.underlying26 (by kernel_rfl) (by kernel_rfl) (by omega) (hval 1 26 v1 rfl rfl) h1
 obtain ⟨n2,e2,l2,w2⟩:=open_flat 4 Tryz.underlying28 (by kernel_rfl) (hval 2 28 v2 rfl rfl) h2
 obtain ⟨a2_0,a2_1,a2_2,a2_3,a2_4,rfl⟩:∃ a2_0 a2_1 a2_2 a2_3 a2_4:Int,n2 = [a2_0,a2_1,a2_2,a2_3,a2_4]:=by
  rw [show Tryz.prog.cellsOf 28 = 5 by kernel_rfl] at l2
  match n2,l2 with
  | [a2_0,a2_1,a2_2,a2_3,a2_4],_ => exact ⟨_,_,_,_,_,rfl⟩
 obtain rfl:v2 = .agg #[.int .i64 a2_0,.int .i64 a2_1,.int .i64 a2_2,.int .i64 a2_3,.int .i64 a2_4]:=e2
 obtain ⟨a3,rfl,rfl,rfl,w3⟩:=open_int Tryz.underlying3 (hval 3 3 v3 rfl rfl) h3
 obtain ⟨a4,rfl,rfl,rfl,w4⟩:=open_int Tryz.underlying3 (hval 4 3 v4 rfl rfl) h4
 obtain ⟨a5,rfl,rfl,rfl,w5⟩:=open_int Tryz.underlying3 (hval 5 3 v5 rfl rfl) h5
 clear hA0 hval0
 refine (bundleElse_walk A0 n0 c0 ns0 B0 m0 k0 ms0 x0 y0 A1 n1 c1 ns1 a2_0 a2_1 a2_2 a2_3 a2_4 a3 a4 a5 nl0 w0 ml0 wm0 wx0 wy0 nl1 w1 w2 w3 w4 w5 W hl0 hm0 hl1).mono fun e W' ⟨he,bel⟩ => ?_
 subst he
 exact ⟨_,rfl,law_post bundleElse_laidOut (by kernel_rfl) rfl Tryz.underlying4 rfl rfl hW' bel⟩

theorem bundleElse_proved:Rows.BundleElseSaid:=
 OpenClaim.holds_of_wide 8 Tryz.f8 rfl rfl rfl rfl rfl rfl rfl ⟨rfl,rfl,rfl,rfl,rfl⟩ rfl rfl rfl rfl rfl (by kernel_rfl) Tryz.func8 (by kernel_rfl)
  (of_decide_eq_true (by kernel_rfl)) (by unfold Func.isWrapper; first | (rw [if_pos (by decide +kernel)]; kernel_rfl) | (rw [if_neg (by decide +kernel)]; exact ⟨rfl,rfl⟩))
  (fun os started H enc _ => bundleElse_lifted os started H enc)
#print axioms bundleElse_proved
end Go.Proofs.YtodcoockhkghdaaGreat
