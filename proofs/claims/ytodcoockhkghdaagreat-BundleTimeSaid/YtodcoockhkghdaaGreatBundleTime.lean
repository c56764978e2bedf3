/- A bundle that is there in time goes the same way, if it may be there later, or by just then: BundleTime returns true. No condition. -/
import Derived.Test.YtodcoockhkghdaaGreatRows
import Derived.Test.YtodcoockhkghdaaGreatSmall20
import Derived.Test.YtodcoockhkghdaaGreatGQ32
import Derived.Test.YtodcoockhkghdaaGreatGQ5
import Derived.Test.YtodcoockhkghdaaGreatGQ33
import Derived.BigQuiet
import Derived.Deep.QuietTactic
import Derived.Test.YtodcoockhkghdaaGreatBundle
import Derived.Test.YtodcoockhkghdaaGreatGQ34
import Derived.Test.YtodcoockhkghdaaGreatGQ24
namespace Go.Proofs.YtodcoockhkghdaaGreat
open Go.ChangeShapes Go.WideShapes Go.ChangeAt Go.RowKit Go.Sort Go.Maps Hp Kv
set_option linter.unusedSimpArgs false
set_option linter.unusedVariables false
set_option maxHeartbeats 16000000 in
set_option maxRecDepth 100000 in
theorem bundleTime_w (A1:Option Addr) (n1 c1:Nat) (cs:List Co) (A:Option Addr) (n c:Nat) (rs:List Rg) (clk ver:Int) (A2:Option Addr) (n2 c2:Nat) (bk:List Bk) (fr tn si cl de:Int) (later:Int) (w:World) (hd1:cs.length = n1) (hd:rs.length = n) (hd2:bk.length = n2) (h1:Sl w w.heap.size 6 A1 n1 c1 (flatCo cs)) (h:Sl w w.heap.size 5 A n c (flatRg rs)) (h2:Sl w w.heap.size 4 A2 n2 c2 (flatBk bk)) :
  Calls Tryz.prog 7 #[.agg #[.slice A1 n1 c1,.slice A n c,.int .i64 clk,.int .i64 ver],.slice A2 n2 c2,.agg #[.int .i64 fr,.int .i64 tn,.int .i64 si,.int .i64 cl,.int .i64 de],.int .i64 later] w fun e w' => e = .returned (.bool true) ∧ Below w.heap.size w w':=by
 have hP:=(Blok.new w 25 #[.slice A1 n1 c1,.slice A n c,.int .i64 clk,.int .i64 ver]).alloc (.cells #[.int .i64 fr,.int .i64 tn,.int .i64 si,.int .i64 cl,.int .i64 de] 28)
 have hQ:=Blok.new (w.alloc (.cells #[.slice A1 n1 c1,.slice A n c,.int .i64 clk,.int .i64 ver] 25)) 28 #[.int .i64 fr,.int .i64 tn,.int .i64 si,.int .i64 cl,.int .i64 de]
 have hB:Below w.heap.size w ((w.alloc (.cells #[.slice A1 n1 c1,.slice A n c,.int .i64 clk,.int .i64 ver] 25)).alloc (.cells #[.int .i64 fr,.int .i64 tn,.int .i64 si,.int .i64 cl,.int .i64 de] 28)):=by (repeat (first | exact Below.refl _ _ | refine Below.alloc ?_ (by first | omega | (simp; done) | (simp; omega)) _ | refine Below.setCell ?_ (by first | omega | (simp; done) | (simp; omega)) _ | refine Below.drew ?_))
 rw [World.size_alloc] at hQ
 have HD1:=Lib.hid hd1
 have HD:=Lib.hid hd
 have HL1:=Lib.hid (fun w' (hb:Below w.heap.size w w') => h1.up hb)
 have HL:=Lib.hid (fun w' (hb:Below w.heap.size w w') => h.up hb)
 have HD2:=Lib.hid hd2
 have HL2:=Lib.hid (fun w' (hb:Below w.heap.size w w') => h2.up hb)
 clear hd1 hd h1 h hd2 h2
 go_enter Tryz.func7,Tryz.ntmps7
 go_wp2_with fail
 generalize (w.alloc (.cells #[.slice A1 n1 c1,.slice A n c,.int .i64 clk,.int .i64 ver] 25)).alloc (.cells #[.int .i64 fr,.int .i64 tn,.int .i64 si,.int .i64 cl,.int .i64 de] 28) = w0 at *
 refine (small20_any w0).mono ?_
 rintro e w1 ⟨rfl,hb⟩
 replace hP:=hP.below hb hP.lt
 replace hQ:=hQ.below hb hQ.lt
 replace hB:=hB.trans (hb.mono hB.size)
 clear hb
 obtain ⟨sm,hsm⟩:∃ z,smallP cs rs clk ver bk = z:=⟨_,rfl⟩
 have HSM:=Lib.hid hsm
 clear hsm
 obtain ⟨hP_c0,hP_c1,hP_c2,hP_c3,hP_lt⟩:=hP.cells4
 go_wp2_with fail
 try clear hP_c0 hP_c1 hP_c2 hP_c3 hP_lt
 refine (Small20_any A1 n1 c1 cs A n c rs clk ver A2 n2 c2 bk w1 HD1.out HD.out HD2.out (HL1.out _ hB) (HL.out _ hB) (HL2.out _ hB) sm HSM.out).mono ?_
 rintro e wk1 ⟨rfl,hb⟩
 replace hP:=hP.below hb hP.lt
 replace hQ:=hQ.below hb hQ.lt
 replace hB:=hB.trans (hb.mono hB.size)
 clear hb
 cases sm with
 | false =>
  go_wp2_with fail
  go_ret
  exact ⟨rfl,hB⟩
 | true =>
  obtain ⟨⟨hk1,hk2,hk3⟩,hrp,hrb⟩:=smallP_spec.1 HSM.out
  rw [HD1.out] at hk1
  rw [HD.out] at hk2
  rw [HD2.out] at hk3
  have HRP:=Lib.hid hrp
  have HRB:=Lib.hid hrb
  clear hrp hrb
  clear HSM
  obtain ⟨bo,hbo⟩:∃ z,bundleB fr tn si cl de = z:=⟨_,rfl⟩
  have HBO:=Lib.hid hbo
  clear hbo
  by_cases hG:later < 0 ∨ 1099511627776 < later
  ·have hG':(later < 0) ∨ (¬ later < 0 ∧ 1099511627776 < later):=by omega
   clear hG
   rcases hG' with g0 | ⟨g0,g1⟩
   all_goals
    go_wp2_with fail
    go_ret
    exact ⟨rfl,hB⟩
  have hl0:¬ later < 0:=by omega
  have hl1:¬ 1099511627776 < later:=by omega
  clear hG
  obtain ⟨hQ_c0,hQ_c1,hQ_c2,hQ_c3,hQ_c4,hQ_lt⟩:=hQ.cells5
  go_wp2_with fail
  try clear hQ_c0 hQ_c1 hQ_c2 hQ_c3 hQ_c4 hQ_lt
  refine (bundle_is bo HBO.out wk1).mono ?_
  rintro e wk2 ⟨rfl,hb⟩
  replace hP:=hP.below hb hP.lt
  replace hQ:=hQ.below hb hQ.lt
  replace hB:=hB.trans (hb.mono hB.size)
  clear hb
  cases bo with
  | false =>
   go_wp2_with fail
   go_ret
   exact ⟨rfl,hB⟩
  | true =>
   obtain ⟨d2,hd2_⟩:∃ z,min (de + later) 1099511627776 = z:=⟨_,rfl⟩
   obtain ⟨b1_,b2_,b3_,b4_,b5_,b6_⟩:=bundleB_spec.1 HBO.out
   have hok2:bundleB fr tn si cl d2 = true:=bundleB_spec.2 ⟨b1_,b2_,b3_,b4_,by omega,by omega⟩
   have hdd:de ≤ d2:=by omega
   have hwr:IntKind.i64.wrap (de + later) = de + later:=by rw [IntWalk.i64_in _ (by omega)]
   have HB2:=Lib.hid hok2
   have HDD:=Lib.hid hdd
   have HDM:=Lib.hid hd2_
   clear hok2 hdd hd2_
   clear b1_ b2_ b3_ b4_ b5_ b6_
   obtain ⟨or,hor⟩:∃ o,bestX (edgesX rs bk cl cs) fr tn clk si de [] = o:=⟨_,rfl⟩
   obtain ⟨Hr,hHr⟩:∃ z,bestH (buX true or) = z:=⟨_,rfl⟩
   obtain ⟨tr,htr⟩:∃ z,bestV (buX true or) = z:=⟨_,rfl⟩
   obtain ⟨mr,hmr⟩:∃ z,Hr.length = z:=⟨_,rfl⟩
   obtain ⟨er,her⟩:∃ z,buE true or = z:=⟨_,rfl⟩
   have HOr:=Lib.hid hor
   have HHr:=Lib.hid hHr
   have HTr:=Lib.hid htr
   have HMr:=Lib.hid hmr
   have HEr:=Lib.hid her
   clear hor hHr htr hmr her
   obtain ⟨os,hos⟩:∃ o,bestX (edgesX rs bk cl cs) fr tn clk si d2 [] = o:=⟨_,rfl⟩
   obtain ⟨Hs,hHs⟩:∃ z,bestH (buX true os) = z:=⟨_,rfl⟩
   obtain ⟨ts,hts⟩:∃ z,bestV (buX true os) = z:=⟨_,rfl⟩
   obtain ⟨ms,hms⟩:∃ z,Hs.length = z:=⟨_,rfl⟩
   obtain ⟨es,hes⟩:∃ z,buE true os = z:=⟨_,rfl⟩
   have HOs:=Lib.hid hos
   have HHs:=Lib.hid hHs
   have HTs:=Lib.hid hts
   have HMs:=Lib.hid hms
   have HEs:=Lib.hid hes
   clear hos hHs hts hms hes
   obtain ⟨hP_c0,hP_c1,hP_c2,hP_c3,hP_lt⟩:=hP.cells4
   obtain ⟨hQ_c0,hQ_c1,hQ_c2,hQ_c3,hQ_c4,hQ_lt⟩:=hQ.cells5
   go_wp2_with fail
   try clear hP_c0 hP_c1 hP_c2 hP_c3 hP_lt hQ_c0 hQ_c1 hQ_c2 hQ_c3 hQ_c4 hQ_lt
   refine (buroute_of sortEd_any A1 n1 c1 cs A n c rs clk ver A2 n2 c2 bk fr tn si cl de wk2 HD1.out (by omega) HD.out (by omega) HD2.out (by omega) (HL1.out _ hB) (HL.out _ hB) (HL2.out _ hB) HRP.out.co HRP.out.rg HRB.out true HBO.out or HOr.out Hr HHr.out tr HTr.out mr HMr.out er HEr.out).mono ?_
   rintro e wk3 ⟨Ar,cr_,rfl,wr,hb⟩
   have sr:=Sl.of_own wr
   clear wr 
   replace hP:=hP.below hb hP.lt
   replace hQ:=hQ.below hb hQ.lt
   replace hB:=hB.trans (hb.mono hB.size)
   clear hb
   go_upto_region 6 with fail
   have hb:Below wk3.heap.size wk3 (wk3.alloc (.cells #[.slice Ar mr cr_,.int .i64 tr] 31)):=(Below.refl _ _).alloc (Nat.le_refl _) _
   have xr:=Blok.new wk3 31 #[.slice Ar mr cr_,.int .i64 tr]
   obtain ⟨bxr,hbxr⟩:∃ q,wk3.heap.size = q:=⟨_,rfl⟩
   have hsxr:(wk3.alloc (.cells #[.slice Ar mr cr_,.int .i64 tr] 31)).heap.size = bxr + 1:=by rw [← hbxr]; simp
   replace sr:=sr.up hb
   replace hP:=hP.below hb hP.lt
   replace hQ:=hQ.below hb hQ.lt
   replace hB:=hB.trans (hb.mono hB.size)
   clear hb
   generalize wk3.alloc (.cells #[.slice Ar mr cr_,.int .i64 tr] 31) = wk4 at *
   rw [hbxr] at xr
   try rw [hbxr]
   clear hbxr
   try clear hsxr
   obtain ⟨hQ_c0,hQ_c1,hQ_c2,hQ_c3,hQ_c4,hQ_lt⟩:=hQ.cells5
   go_upto_region 7 with fail
   try clear hQ_c0 hQ_c1 hQ_c2 hQ_c3 hQ_c4 hQ_lt
   have O_xc_sr:0 < mr → ∀ ad:Addr,(Ar:Option Addr) = some ad → ad.block ≠ wk4.heap.size:=fun hp ad e he => by
    obtain ⟨a2,e2,hlt,_⟩:=sr.lst.at_ hp
    rw [e] at e2
    injection e2 with e2
    subst e2
    rw [he] at hlt
    exact Nat.lt_irrefl _ hlt
   have N_xc_hP:w.heap.size ≠ wk4.heap.size:=Nat.ne_of_lt hP.lt
   have N_xc_hQ:(w.heap.size + 1) ≠ wk4.heap.size:=Nat.ne_of_lt hQ.lt
   have N_xc_xr:bxr ≠ wk4.heap.size:=Nat.ne_of_lt xr.lt
   have L_xc:w.heap.size ≤ wk4.heap.size:=hB.size
   have hb:Below wk4.heap.size wk4 (wk4.alloc (.cells #[.int .i64 fr,.int .i64 tn,.int .i64 si,.int .i64 cl,.int .i64 de] 28)):=(Below.refl _ _).alloc (Nat.le_refl _) _
   have xc:=Blok.new wk4 28 #[.int .i64 fr,.int .i64 tn,.int .i64 si,.int .i64 cl,.int .i64 de]
   obtain ⟨bxc,hbxc⟩:∃ q,wk4.heap.size = q:=⟨_,rfl⟩
   have hsxc:(wk4.alloc (.cells #[.int .i64 fr,.int .i64 tn,.int .i64 si,.int .i64 cl,.int .i64 de] 28)).heap.size = bxc + 1:=by rw [← hbxc]; simp
   replace sr:=sr.up hb
   replace hP:=hP.below hb hP.lt
   replace hQ:=hQ.below hb hQ.lt
   replace xr:=xr.below hb xr.lt
   replace hB:=hB.trans (hb.mono hB.size)
   clear hb
   generalize wk4.alloc (.cells #[.int .i64 fr,.int .i64 tn,.int .i64 si,.int .i64 cl,.int .i64 de] 28) = wk5 at *
   rw [hbxc] at xc O_xc_sr N_xc_hP N_xc_hQ N_xc_xr L_xc
   try rw [hbxc]
   clear hbxc
   replace O_xc_sr:=Lib.hid O_xc_sr
   replace N_xc_hP:=Lib.hid N_xc_hP
   replace N_xc_hQ:=Lib.hid N_xc_hQ
   replace N_xc_xr:=Lib.hid N_xc_xr
   replace L_xc:=Lib.hid L_xc
   try clear hsxc
   obtain ⟨hQ_c0,hQ_c1,hQ_c2,hQ_c3,hQ_c4,hQ_lt⟩:=hQ.cells5
   obtain ⟨xc_c0,xc_c1,xc_c2,xc_c3,xc_c4,xc_lt⟩:=xc.cells5
   have xc_f:=xc.free 4
   go_upto_region 8 with fail
   try clear hQ_c0 hQ_c1 hQ_c2 hQ_c3 hQ_c4 hQ_lt xc_c0 xc_c1 xc_c2 xc_c3 xc_c4 xc_lt xc_f
   try rw [HDM.out]
   have K_:Kept (fun g => g = bxc) wk5 (wk5.setCell ⟨bxc,4,none⟩ (.int .i64 d2)):=Kept.of_grown (grown_set _ _ _) (fun k e _ => (Option.some.inj e).symm)
   replace hB:=below_keptJ hB (Nat.le_refl _) K_ (fun k hk => by rw [hk]; exact L_xc.out)
   replace sr:=sr.keptJ K_ O_xc_sr.out
   replace hP:=K_.blok hP (by first | exact N_xc_hP.out | exact (fun e => N_hP_xc.out e.symm))
   replace hQ:=K_.blok hQ (by first | exact N_xc_hQ.out | exact (fun e => N_hQ_xc.out e.symm))
   replace xr:=K_.blok xr (by first | exact N_xc_xr.out | exact (fun e => N_xr_xc.out e.symm))
   replace xc:Blok (wk5.setCell ⟨bxc,4,none⟩ (.int .i64 d2)) bxc 28 #[.int .i64 fr,.int .i64 tn,.int .i64 si,.int .i64 cl,.int .i64 d2]:=xc.set_ 4 (.int .i64 d2)
   clear K_
   generalize wk5.setCell ⟨bxc,4,none⟩ (.int .i64 d2) = wk6 at *
   clear hwr
   obtain ⟨hP_c0,hP_c1,hP_c2,hP_c3,hP_lt⟩:=hP.cells4
   obtain ⟨xc_c0,xc_c1,xc_c2,xc_c3,xc_c4,xc_lt⟩:=xc.cells5
   go_wp2_with fail
   try clear hP_c0 hP_c1 hP_c2 hP_c3 hP_lt xc_c0 xc_c1 xc_c2 xc_c3 xc_c4 xc_lt
   have LT_xc:bxc < wk6.heap.size:=xc.lt
   refine (buroute_of sortEd_any A1 n1 c1 cs A n c rs clk ver A2 n2 c2 bk fr tn si cl d2 wk6 HD1.out (by omega) HD.out (by omega) HD2.out (by omega) (HL1.out _ hB) (HL.out _ hB) (HL2.out _ hB) HRP.out.co HRP.out.rg HRB.out true HB2.out os HOs.out Hs HHs.out ts HTs.out ms HMs.out es HEs.out).mono ?_
   rintro e wk7 ⟨As,cs_,rfl,ws,hb⟩
   have ss:=Sl.of_own ws
   have O_xc_ss:Hid (0 < ms → ∀ ad,As = some ad → ad.block ≠ bxc):=fun hp ad e he => by
    obtain ⟨g',c',e2,_⟩:=own_posJ ws hp
    simp only [Value.slice.injEq] at e2
    have e3:=e2.1
    rw [e] at e3
    injection e3 with e3
    subst e3
    have h8:=(ws.lt g' (by rw [e]; rfl)).1
    have h9:=LT_xc
    have he':g' = bxc:=he
    omega
   clear ws LT_xc
   replace sr:=sr.up hb
   replace hP:=hP.below hb hP.lt
   replace hQ:=hQ.below hb hQ.lt
   replace xr:=xr.below hb xr.lt
   replace xc:=xc.below hb xc.lt
   replace hB:=hB.trans (hb.mono hB.size)
   clear hb
   go_upto_region 9 with fail
   have N_xs_xc:bxc ≠ wk7.heap.size:=Nat.ne_of_lt xc.lt
   have hb:Below wk7.heap.size wk7 (wk7.alloc (.cells #[.slice As ms cs_,.int .i64 ts] 31)):=(Below.refl _ _).alloc (Nat.le_refl _) _
   have xs:=Blok.new wk7 31 #[.slice As ms cs_,.int .i64 ts]
   obtain ⟨bxs,hbxs⟩:∃ q,wk7.heap.size = q:=⟨_,rfl⟩
   have hsxs:(wk7.alloc (.cells #[.slice As ms cs_,.int .i64 ts] 31)).heap.size = bxs + 1:=by rw [← hbxs]; simp
   replace sr:=sr.up hb
   replace ss:=ss.up hb
   replace hP:=hP.below hb hP.lt
   replace hQ:=hQ.below hb hQ.lt
   replace xr:=xr.below hb xr.lt
   replace xc:=xc.below hb xc.lt
   replace hB:=hB.trans (hb.mono hB.size)
   clear hb
   generalize wk7.alloc (.cells #[.slice As ms cs_,.int .i64 ts] 31) = wk8 at *
   rw [hbxs] at xs N_xs_xc
   try rw [hbxs]
   clear hbxs
   replace N_xs_xc:=Lib.hid N_xs_xc
   rcases or with _ | p
   ·obtain rfl:er = 6:=HEr.out.symm
    obtain rfl:tr = 0:=HTr.out.symm
    obtain rfl:Hr = []:=HHr.out.symm
    obtain rfl:mr = 0:=HMr.out.symm
    rcases os with _ | p2
    ·obtain rfl:es = 6:=HEs.out.symm
     obtain rfl:ts = 0:=HTs.out.symm
     obtain rfl:Hs = []:=HHs.out.symm
     obtain rfl:ms = 0:=HMs.out.symm
     try clear hsxs
     obtain ⟨xs_c0,xs_c1,xs_lt⟩:=xs.cells2
     obtain ⟨hQ_c0,hQ_c1,hQ_c2,hQ_c3,hQ_c4,hQ_lt⟩:=hQ.cells5
     go_wp2_with fail
     try clear xs_c0 xs_c1 xs_lt hQ_c0 hQ_c1 hQ_c2 hQ_c3 hQ_c4 hQ_lt
     go_ret
     exact ⟨rfl,hB⟩
    ·obtain rfl:es = 0:=HEs.out.symm
     have hlt:de < ts:=by rw [HTs.out.symm]; exact time_none HOr.out HOs.out
     try clear hsxs
     obtain ⟨xs_c0,xs_c1,xs_lt⟩:=xs.cells2
     obtain ⟨hQ_c0,hQ_c1,hQ_c2,hQ_c3,hQ_c4,hQ_lt⟩:=hQ.cells5
     go_wp2_with fail
     try clear xs_c0 xs_c1 xs_lt hQ_c0 hQ_c1 hQ_c2 hQ_c3 hQ_c4 hQ_lt
     go_ret
     exact ⟨rfl,hB⟩
   ·obtain rfl:er = 0:=HEr.out.symm
    obtain rfl:os = some p:=HOs.out.symm.trans (time_some HDD.out HOr.out)
    obtain rfl:es = 0:=HEs.out.symm
    obtain rfl:tr = ts:=HTr.out.symm.trans HTs.out
    obtain rfl:Hr = Hs:=HHr.out.symm.trans HHs.out
    have hml:mr ≤ 1000000:=by
     have h1:=bestX_len HOr.out
     have h2:=edgesX_len rs bk cl cs
     have h3:p.1 = Hr:=HHr.out
     rw [h3,HMr.out] at h1
     rw [HD1.out] at h2
     omega
    have hms:ms ≤ 1000000:=by have h1:=HMr.out; have h2:=HMs.out; omega
    have hbt:=best_time HOr.out
    rw [show p.2 = tr from HTr.out] at hbt
    obtain ⟨b1_,b2_,b3_,b4_,b5_,b6_⟩:=bundleB_spec.1 HBO.out
    have hc0:=HRP.out.c0
    have hok3:bundleB fr tn si cl tr = true:=bundleB_spec.2 ⟨b1_,b2_,b3_,b4_,by omega,by omega⟩
    have HB3:=Lib.hid hok3
    clear hok3
    clear hbt b1_ b2_ b3_ b4_ b5_ b6_ hc0
    try clear hsxs
    obtain ⟨xr_c0,xr_c1,xr_lt⟩:=xr.cells2
    obtain ⟨xc_c0,xc_c1,xc_c2,xc_c3,xc_c4,xc_lt⟩:=xc.cells5
    have xc_f:=xc.free 4
    go_upto_region 12 with fail
    try clear xr_c0 xr_c1 xr_lt xc_c0 xc_c1 xc_c2 xc_c3 xc_c4 xc_lt xc_f
    have K_:Kept (fun g => g = bxc) wk8 (wk8.setCell ⟨bxc,4,none⟩ (.int .i64 tr)):=Kept.of_grown (grown_set _ _ _) (fun k e _ => (Option.some.inj e).symm)
    replace hB:=below_keptJ hB (Nat.le_refl _) K_ (fun k hk => by rw [hk]; exact L_xc.out)
    replace sr:=sr.keptJ K_ O_xc_sr.out
    replace ss:=ss.keptJ K_ O_xc_ss.out
    replace hP:=K_.blok hP (by first | exact N_xc_hP.out | exact (fun e => N_hP_xc.out e.symm))
    replace hQ:=K_.blok hQ (by first | exact N_xc_hQ.out | exact (fun e => N_hQ_xc.out e.symm))
    replace xr:=K_.blok xr (by first | exact N_xc_xr.out | exact (fun e => N_xr_xc.out e.symm))
    replace xs:=K_.blok xs (by first | exact N_xc_xs.out | exact (fun e => N_xs_xc.out e.symm))
    replace xc:Blok (wk8.setCell ⟨bxc,4,none⟩ (.int .i64 tr)) bxc 28 #[.int .i64 fr,.int .i64 tn,.int .i64 si,.int .i64 cl,.int .i64 tr]:=xc.set_ 4 (.int .i64 tr)
    clear K_
    generalize wk8.setCell ⟨bxc,4,none⟩ (.int .i64 tr) = wk9 at *
    obtain ⟨ou,hou⟩:∃ o,bestX (edgesX rs bk cl cs) fr tn clk si tr [] = o:=⟨_,rfl⟩
    obtain ⟨Hu,hHu⟩:∃ z,bestH (buX true ou) = z:=⟨_,rfl⟩
    obtain ⟨tu,htu⟩:∃ z,bestV (buX true ou) = z:=⟨_,rfl⟩
    obtain ⟨mu,hmu⟩:∃ z,Hu.length = z:=⟨_,rfl⟩
    obtain ⟨eu,heu⟩:∃ z,buE true ou = z:=⟨_,rfl⟩
    have HOu:=Lib.hid hou
    have HHu:=Lib.hid hHu
    have HTu:=Lib.hid htu
    have HMu:=Lib.hid hmu
    have HEu:=Lib.hid heu
    clear hou hHu htu hmu heu
    obtain ⟨hP_c0,hP_c1,hP_c2,hP_c3,hP_lt⟩:=hP.cells4
    obtain ⟨xc_c0,xc_c1,xc_c2,xc_c3,xc_c4,xc_lt⟩:=xc.cells5
    go_wp2_with fail
    try clear hP_c0 hP_c1 hP_c2 hP_c3 hP_lt xc_c0 xc_c1 xc_c2 xc_c3 xc_c4 xc_lt
    refine (buroute_of sortEd_any A1 n1 c1 cs A n c rs clk ver A2 n2 c2 bk fr tn si cl tr wk9 HD1.out (by omega) HD.out (by omega) HD2.out (by omega) (HL1.out _ hB) (HL.out _ hB) (HL2.out _ hB) HRP.out.co HRP.out.rg HRB.out true HB3.out ou HOu.out Hu HHu.out tu HTu.out mu HMu.out eu HEu.out).mono ?_
    rintro e wk10 ⟨Au,cu_,rfl,wu,hb⟩
    have su:=Sl.of_own wu
    clear wu 
    replace sr:=sr.up hb
    replace ss:=ss.up hb
    replace hP:=hP.below hb hP.lt
    replace hQ:=hQ.below hb hQ.lt
    replace xr:=xr.below hb xr.lt
    replace xc:=xc.below hb xc.lt
    replace xs:=xs.below hb xs.lt
    replace hB:=hB.trans (hb.mono hB.size)
    clear hb
    have hou:ou = some p:=by
     have h:=time_then HOr.out
     rw [show p.2 = tr from HTr.out] at h
     exact HOu.out.symm.trans h
    subst hou
    obtain rfl:eu = 0:=HEu.out.symm
    obtain rfl:tr = tu:=HTr.out.symm.trans HTu.out
    obtain rfl:Hr = Hu:=HHr.out.symm.trans HHu.out
    have hmu:mu ≤ 1000000:=by have h1:=HMr.out; have h2:=HMu.out; omega
    go_upto_region 13 with fail
    have N_xu_xc:bxc ≠ wk10.heap.size:=Nat.ne_of_lt xc.lt
    have hb:Below wk10.heap.size wk10 (wk10.alloc (.cells #[.slice Au mu cu_,.int .i64 tr] 31)):=(Below.refl _ _).alloc (Nat.le_refl _) _
    have xu:=Blok.new wk10 31 #[.slice Au mu cu_,.int .i64 tr]
    obtain ⟨bxu,hbxu⟩:∃ q,wk10.heap.size = q:=⟨_,rfl⟩
    have hsxu:(wk10.alloc (.cells #[.slice Au mu cu_,.int .i64 tr] 31)).heap.size = bxu + 1:=by rw [← hbxu]; simp
    replace sr:=sr.up hb
    replace ss:=ss.up hb
    replace su:=su.up hb
    replace hP:=hP.below hb hP.lt
    replace hQ:=hQ.below hb hQ.lt
    replace xr:=xr.below hb xr.lt
    replace xc:=xc.below hb xc.lt
    replace xs:=xs.below hb xs.lt
    replace hB:=hB.trans (hb.mono hB.size)
    clear hb
    generalize wk10.alloc (.cells #[.slice Au mu cu_,.int .i64 tr] 31) = wk11 at *
    rw [hbxu] at xu N_xu_xc
    try rw [hbxu]
    clear hbxu
    replace N_xu_xc:=Lib.hid N_xu_xc
    try clear hsxu
    obtain ⟨xr_c0,xr_c1,xr_lt⟩:=xr.cells2
    obtain ⟨xs_c0,xs_c1,xs_lt⟩:=xs.cells2
    go_wp2_with fail
    try clear xr_c0 xr_c1 xr_lt xs_c0 xs_c1 xs_lt
    refine (psame_any Ar As mr cr_ ms cs_ Hr Hr tr tr wk11 HMr.out HMs.out hml hms sr ss true (by simp)).mono ?_
    rintro e wk12 ⟨rfl,hb⟩
    replace sr:=sr.up hb
    replace ss:=ss.up hb
    replace su:=su.up hb
    replace hP:=hP.below hb hP.lt
    replace hQ:=hQ.below hb hQ.lt
    replace xr:=xr.below hb xr.lt
    replace xc:=xc.below hb xc.lt
    replace xs:=xs.below hb xs.lt
    replace xu:=xu.below hb xu.lt
    replace hB:=hB.trans (hb.mono hB.size)
    clear hb
    obtain ⟨xr_c0,xr_c1,xr_lt⟩:=xr.cells2
    obtain ⟨xu_c0,xu_c1,xu_lt⟩:=xu.cells2
    go_wp2_with fail
    try clear xr_c0 xr_c1 xr_lt xu_c0 xu_c1 xu_lt
    refine (psame_any Ar Au mr cr_ mu cu_ Hr Hr tr tr wk12 HMr.out HMu.out hml hmu sr su true (by simp)).mono ?_
    rintro e wk13 ⟨rfl,hb⟩
    replace sr:=sr.up hb
    replace ss:=ss.up hb
    replace su:=su.up hb
    replace hP:=hP.below hb hP.lt
    replace hQ:=hQ.below hb hQ.lt
    replace xr:=xr.below hb xr.lt
    replace xc:=xc.below hb xc.lt
    replace xs:=xs.below hb xs.lt
    replace xu:=xu.below hb xu.lt
    replace hB:=hB.trans (hb.mono hB.size)
    clear hb
    go_wp2_with fail
    go_ret
    exact ⟨rfl,hB⟩
theorem bundleTime_walk (A1:Option Addr) (n1 c1:Nat) (ns1:List Int) (A:Option Addr) (n c:Nat) (ns:List Int) (clk ver:Int) (A2:Option Addr) (n2 c2:Nat) (ns2:List Int) (fr tn si cl de:Int) (later:Int) (hnl1:ns1.length = n1 * 6) (_:∀ m ∈ ns1,(Lit.int .i64 m).wf = true) (hnl:ns.length = n * 5) (_:∀ m ∈ ns,(Lit.int .i64 m).wf = true) (_:(Lit.int .i64 clk).wf = true) (_:(Lit.int .i64 ver).wf = true) (hnl2:ns2.length = n2 * 4) (_:∀ m ∈ ns2,(Lit.int .i64 m).wf = true) (_:∀ m ∈ [fr,tn,si,cl,de],(Lit.int .i64 m).wf = true) (_:(Lit.int .i64 later).wf = true) (w:World) (h1:Sl w w.heap.size 6 A1 n1 c1 (ns1.map (Value.int .i64))) (h:Sl w w.heap.size 5 A n c (ns.map (Value.int .i64))) (h2:Sl w w.heap.size 4 A2 n2 c2 (ns2.map (Value.int .i64))) :
  Calls Tryz.prog 7 #[.agg #[.slice A1 n1 c1,.slice A n c,.int .i64 clk,.int .i64 ver],.slice A2 n2 c2,.agg #[.int .i64 fr,.int .i64 tn,.int .i64 si,.int .i64 cl,.int .i64 de],.int .i64 later] w fun e w' => e = .returned (.bool true) ∧ Below w.heap.size w w':=by
 obtain ⟨cs,hd1,hf1⟩:=rowsCo_of n1 ns1 hnl1
 obtain ⟨rs,hd,hf⟩:=rowsRg_of n ns hnl
 rw [hf1] at h1
 rw [hf] at h
 obtain ⟨bk,hd2,hf2⟩:=rowsBk_of n2 ns2 hnl2
 rw [hf2] at h2
 exact bundleTime_w A1 n1 c1 cs A n c rs clk ver A2 n2 c2 bk fr tn si cl de later w hd1 hd hd2 h1 h h2
theorem bundleTime_own:ownKnob Tryz.prog.godebug = none:=by kernel_rfl
theorem bundleTime_laidOut:laidOutB Tryz.prog = true:=by kernel_rfl

set_option maxHeartbeats 1000000 in
set_option maxRecDepth 100000 in
theorem bundleTime_lifted (os:Os) (started:os.Started) (H:Type) (enc:TypeId × Value → H) :
  ReturnsInHanded {} Tryz.checked os 7 .any (Rows.bundleTimeSpec.pre6 enc Tryz.prog Tryz.f7 Rows.bundleTimeRow.domain false) (Rows.bundleTimeSpec.post enc Tryz.prog Tryz.f7 false true false false):=by
 refine returnsInHanded_of_change (C:=Tryz.checked) bundleTime_own started (by kernel_rfl) Tryz.func7
  (ChangeSpec.witness6 (enc:=enc) (C:=Tryz.checked) false ⟨#[],#[.agg #[.slice none 0 0,.slice none 0 0,.int .i64 0,.int .i64 0],.slice none 0 0,.agg #[.int .i64 0,.int .i64 0,.int .i64 0,.int .i64 0,.int .i64 0],.int .i64 0],[]⟩ 8 (by kernel_rfl) (by kernel_rfl) (by kernel_rfl) (by kernel_rfl)) ?_
 intro W base args ds gs before hval0 hW hcnd _
 have hval:∀ (j:Nat) t v,Tryz.f7.params[j]? = some t → args[j]? = some v → Value.okWide Tryz.prog W .any base t v:=hval0
 have hW':=hW
 obtain ⟨p,q,hA0,hV,rfl,hfz,hnd⟩:=hW
 have hA:DataW.TrodAll enc Tryz.prog W 0 (fun _ => true) true Tryz.f7.params.toList args.toList ds p:=hA0
 rw [Tryz.params7] at hA hval
 obtain ⟨v0,vs0,d0,ds0,p0,q0,hargs,rfl,rfl,h0,r0⟩:=trodAll_cons hA
 obtain ⟨v1,vs1,d1,ds1,p1,q1,rfl,rfl,rfl,h1,r1⟩:=trodAll_cons r0
 obtain ⟨v2,vs2,d2,ds2,p2,q2,rfl,rfl,rfl,h2,r2⟩:=trodAll_cons r1
 obtain ⟨v3,vs3,d3,ds3,p3,q3,rfl,rfl,rfl,h3,r3⟩:=trodAll_cons r2
 obtain ⟨rfl,rfl,rfl⟩:=trodAll_nil r3
 obtain rfl:args = #[v0,v1,v2,v3]:=by cases args; simp_all
 obtain ⟨rfl,rfl⟩:=trodVars_none hV
 obtain ⟨A0,n0,c0,ns0,B0,m0,k0,ms0,x0,y0,rfl,hl0,nl0,w0,hm0,ml0,wm0,wx0,wy0⟩:=open_plan 4 (e0:=59) (e1:=100) (K0:=6) (K1:=5) Tryz.underlying25 (by kernel_rfl) (by kernel_rfl) (by kernel_rfl) (by kernel_rfl) (by kernel_rfl) (by kernel_rfl) (by kernel_rfl) (by kernel_rfl) (by omega) (by kernel_rfl) (by omega) (hval 0 25 v0 rfl rfl) h0
 obtain ⟨A1,n1,c1,ns1,rfl,hl1,nl1,w1⟩:=open_rowsS 4 (K:=4) Tryz.underlying26 (by kernel_rfl) (by kernel_rfl) (by omega) (hval 1 26 v1 rfl rfl) h1
 obtain ⟨n2,e2,l2,w2⟩:=open_flat 4 Tryz.underlying28 (by kernel_rfl) (hval 2 28 v2 rfl rfl) h2
 obtain ⟨a2_0,a2_1,a2_2,a2_3,a2_4,rfl⟩:∃ a2_0 a2_1 a2_2 a2_3 a2_4:Int,n2 = [a2_0,a2_1,a2_2,a2_3,a2_4]:=by
  rw [show Tryz.prog.cellsOf 28 = 5 by kernel_rfl] at l2
  match n2,l2 with
  | [a2_0,a2_1,a2_2,a2_3,a2_4],_ => exact ⟨_,_,_,_,_,rfl⟩
 obtain rfl:v2 = .agg #[.int .i64 a2_0,.int .i64 a2_1,.int .i64 a2_2,.int .i64 a2_3,.int .i64 a2_4]:=e2
 obtain ⟨a3,rfl,rfl,rfl,w3⟩:=open_int Tryz.underlying3 (hval 3 3 v3 rfl rfl) h3
 clear hA0 hval0
 refine (bundleTime_walk A0 n0 c0 ns0 B0 m0 k0 ms0 x0 y0 A1 n1 c1 ns1 a2_0 a2_1 a2_2 a2_3 a2_4 a3 nl0 w0 ml0 wm0 wx0 wy0 nl1 w1 w2 w3 W hl0 hm0 hl1).mono fun e W' ⟨he,bel⟩ => ?_
 subst he
 exact ⟨_,rfl,law_post bundleTime_laidOut (by kernel_rfl) rfl Tryz.underlying4 rfl rfl hW' bel⟩

theorem bundleTime_proved:Rows.BundleTimeSaid:=
 OpenClaim.holds_of_wide 7 Tryz.f7 rfl rfl rfl rfl rfl rfl rfl ⟨rfl,rfl,rfl,rfl,rfl⟩ rfl rfl rfl rfl rfl (by kernel_rfl) Tryz.func7 (by kernel_rfl)
  (of_decide_eq_true (by kernel_rfl)) (by unfold Func.isWrapper; first | (rw [if_pos (by decide +kernel)]; kernel_rfl) | (rw [if_neg (by decide +kernel)]; exact ⟨rfl,rfl⟩))
  (fun os started H enc _ => bundleTime_lifted os started H enc)
#print axioms bundleTime_proved
end Go.Proofs.YtodcoockhkghdaaGreat
