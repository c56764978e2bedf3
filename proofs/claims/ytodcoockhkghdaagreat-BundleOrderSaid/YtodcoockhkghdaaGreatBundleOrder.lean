/- Who is greater, or is to be there earlier, has no better route, and who is of a greater class no worse one: BundleOrder returns true. No condition. -/
import Derived.Test.YtodcoockhkghdaaGreatRows
import Derived.Test.YtodcoockhkghdaaGreatSmall20
import Derived.Test.YtodcoockhkghdaaGreatGQ32
import Derived.Test.YtodcoockhkghdaaGreatGQ5
import Derived.Test.YtodcoockhkghdaaGreatGQ33
import Derived.BigQuiet
import Derived.Deep.QuietTactic
import Derived.Test.YtodcoockhkghdaaGreatBundle
import Derived.Test.YtodcoockhkghdaaGreatGQ34
import Derived.Test.YtodcoockhkghdaaGreatGQ35
import Derived.Test.YtodcoockhkghdaaGreatGQ24
namespace Go.Proofs.YtodcoockhkghdaaGreat
open Go.ChangeShapes Go.WideShapes Go.ChangeAt Go.RowKit Go.Sort Go.Maps Hp Kv
set_option linter.unusedSimpArgs false
set_option linter.unusedVariables false
set_option maxHeartbeats 16000000 in
set_option maxRecDepth 100000 in
theorem bundleOrder_w (A1:Option Addr) (n1 c1:Nat) (cs:List Co) (A:Option Addr) (n c:Nat) (rs:List Rg) (clk ver:Int) (A2:Option Addr) (n2 c2:Nat) (bk:List Bk) (fr tn si cl de:Int) (more:Int) (earlier:Int) (w:World) (hd1:cs.length = n1) (hd:rs.length = n) (hd2:bk.length = n2) (h1:Sl w w.heap.size 6 A1 n1 c1 (flatCo cs)) (h:Sl w w.heap.size 5 A n c (flatRg rs)) (h2:Sl w w.heap.size 4 A2 n2 c2 (flatBk bk)) :
  Calls Tryz.prog 5 #[.agg #[.slice A1 n1 c1,.slice A n c,.int .i64 clk,.int .i64 ver],.slice A2 n2 c2,.agg #[.int .i64 fr,.int .i64 tn,.int .i64 si,.int .i64 cl,.int .i64 de],.int .i64 more,.int .i64 earlier] w fun e w' => e = .returned (.bool true) ∧ Below w.heap.size w w':=by
 have hP:=(Blok.new w 25 #[.slice A1 n1 c1,.slice A n c,.int .i64 clk,.int .i64 ver]).alloc (.cells #[.int .i64 fr,.int .i64 tn,.int .i64 si,.int .i64 cl,.int .i64 de] 28)
 have hQ:=Blok.new (w.alloc (.cells #[.slice A1 n1 c1,.slice A n c,.int .i64 clk,.int .i64 ver] 25)) 28 #[.int .i64 fr,.int .i64 tn,.int .i64 si,.int .i64 cl,.int .i64 de]
 have hB:Below w.heap.size w ((w.alloc (.cells #[.slice A1 n1 c1,.slice A n c,.int .i64 clk,.int .i64 ver] 25)).alloc (.cells #[.int .i64 fr,.int .i64 tn,.int .i64 si,.int .i64 cl,.int .i64 de] 28)):=by (repeat (first | exact Below.refl _ _ | refine Below.alloc ?_ (by first | omega | (simp; done) | (simp; omega)) _ | refine Below.setCell ?_ (by first | omega | (simp; done) | (simp; omega)) _ | refine Below.drew ?_))
 rw [World.size_alloc] at hQ
 have HD1:=Lib.hid hd1
 have HD:=Lib.hid hd
 have HL1:=Lib.hid (fun w' (hb:Below w.heap.size w w') => h1.up hb)
 have HL:=Lib.hid (fun w' (hb:Below w.heap.size w w') => h.up hb)
 have HD2:=Lib.hid hd2
 have HL2:=Lib.hid (fun w' (hb:Below w.heap.size w w') => h2.up hb)
 clear hd1 hd h1 h hd2 h2
 go_enter Tryz.func5,Tryz.ntmps5
 go_wp2_with fail
 generalize (w.alloc (.cells #[.slice A1 n1 c1,.slice A n c,.int .i64 clk,.int .i64 ver] 25)).alloc (.cells #[.int .i64 fr,.int .i64 tn,.int .i64 si,.int .i64 cl,.int .i64 de] 28) = w0 at *
 refine (small20_any w0).mono ?_
 rintro e w1 ⟨rfl,hb⟩
 replace hP:=hP.below hb hP.lt
 replace hQ:=hQ.below hb hQ.lt
 replace hB:=hB.trans (hb.mono hB.size)
 clear hb
 obtain ⟨sm,hsm⟩:∃ z,smallP cs rs clk ver bk = z:=⟨_,rfl⟩
 have HSM:=Lib.hid hsm
 clear hsm
 obtain ⟨hP_c0,hP_c1,hP_c2,hP_c3,hP_lt⟩:=hP.cells4
 go_wp2_with fail
 try clear hP_c0 hP_c1 hP_c2 hP_c3 hP_lt
 refine (Small20_any A1 n1 c1 cs A n c rs clk ver A2 n2 c2 bk w1 HD1.out HD.out HD2.out (HL1.out _ hB) (HL.out _ hB) (HL2.out _ hB) sm HSM.out).mono ?_
 rintro e wk1 ⟨rfl,hb⟩
 replace hP:=hP.below hb hP.lt
 replace hQ:=hQ.below hb hQ.lt
 replace hB:=hB.trans (hb.mono hB.size)
 clear hb
 cases sm with
 | false =>
  go_wp2_with fail
  go_ret
  exact ⟨rfl,hB⟩
 | true =>
  obtain ⟨⟨hk1,hk2,hk3⟩,hrp,hrb⟩:=smallP_spec.1 HSM.out
  rw [HD1.out] at hk1
  rw [HD.out] at hk2
  rw [HD2.out] at hk3
  have HRP:=Lib.hid hrp
  have HRB:=Lib.hid hrb
  clear hrp hrb
  clear HSM
  obtain ⟨bo,hbo⟩:∃ z,bundleB fr tn si cl de = z:=⟨_,rfl⟩
  have HBO:=Lib.hid hbo
  clear hbo
  by_cases hG:more < 0 ∨ 1099511627776 < more ∨ earlier < 0 ∨ 1099511627776 < earlier
  ·have hG':(more < 0) ∨ (¬ more < 0 ∧ 1099511627776 < more) ∨ (¬ more < 0 ∧ ¬ 1099511627776 < more ∧ earlier < 0) ∨ (¬ more < 0 ∧ ¬ 1099511627776 < more ∧ ¬ earlier < 0 ∧ 1099511627776 < earlier):=by omega
   clear hG
   rcases hG' with g0 | ⟨g0,g1⟩ | ⟨g0,g1,g2⟩ | ⟨g0,g1,g2,g3⟩
   all_goals
    go_wp2_with fail
    go_ret
    exact ⟨rfl,hB⟩
  have hl0:¬ more < 0:=by omega
  have hl1:¬ 1099511627776 < more:=by omega
  have hl2:¬ earlier < 0:=by omega
  have hl3:¬ 1099511627776 < earlier:=by omega
  clear hG
  obtain ⟨hQ_c0,hQ_c1,hQ_c2,hQ_c3,hQ_c4,hQ_lt⟩:=hQ.cells5
  go_wp2_with fail
  try clear hQ_c0 hQ_c1 hQ_c2 hQ_c3 hQ_c4 hQ_lt
  refine (bundle_is bo HBO.out wk1).mono ?_
  rintro e wk2 ⟨rfl,hb⟩
  replace hP:=hP.below hb hP.lt
  replace hQ:=hQ.below hb hQ.lt
  replace hB:=hB.trans (hb.mono hB.size)
  clear hb
  cases bo with
  | false =>
   go_wp2_with fail
   go_ret
   exact ⟨rfl,hB⟩
  | true =>
   obtain ⟨s2,hs2_⟩:∃ z,min (si + more) 1099511627775 = z:=⟨_,rfl⟩
   obtain ⟨d2,hd2_⟩:∃ z,max (de - earlier) 0 = z:=⟨_,rfl⟩
   obtain ⟨cg,hcg_⟩:∃ z,min (cl + 1) 2 = z:=⟨_,rfl⟩
   obtain ⟨b1_,b2_,b3_,b4_,b5_,b6_⟩:=bundleB_spec.1 HBO.out
   have hokw:bundleB fr tn s2 cl d2 = true:=bundleB_spec.2 ⟨b1_,b2_,by omega,b4_,by omega,by omega⟩
   have hokg:bundleB fr tn si cg de = true:=bundleB_spec.2 ⟨b1_,b2_,b3_,by omega,b5_,b6_⟩
   have hle1:si ≤ s2:=by omega
   have hle2:d2 ≤ de:=by omega
   have hwr1:IntKind.i64.wrap (si + more) = si + more:=by rw [IntWalk.i64_in _ (by omega)]
   have hwr2:IntKind.i64.wrap (de - earlier) = de - earlier:=by rw [IntWalk.i64_in _ (by omega)]
   have hwr3:IntKind.i64.wrap (cl + 1) = cl + 1:=by rw [IntWalk.i64_in _ (by omega)]
   obtain ⟨oa,hoa⟩:∃ o,bestX (edgesX rs bk cl cs) fr tn clk si de [] = o:=⟨_,rfl⟩
   obtain ⟨Ha,hHa⟩:∃ z,bestH (buX true oa) = z:=⟨_,rfl⟩
   obtain ⟨ta,hta⟩:∃ z,bestV (buX true oa) = z:=⟨_,rfl⟩
   obtain ⟨ma,hma⟩:∃ z,Ha.length = z:=⟨_,rfl⟩
   obtain ⟨ea,hea⟩:∃ z,buE true oa = z:=⟨_,rfl⟩
   have HOa:=Lib.hid hoa
   have HHa:=Lib.hid hHa
   have HTa:=Lib.hid hta
   have HMa:=Lib.hid hma
   have HEa:=Lib.hid hea
   clear hoa hHa hta hma hea
   obtain ⟨oc,hoc⟩:∃ o,bestX (edgesX rs bk cl cs) fr tn clk s2 d2 [] = o:=⟨_,rfl⟩
   obtain ⟨Hc,hHc⟩:∃ z,bestH (buX true oc) = z:=⟨_,rfl⟩
   obtain ⟨tc,htc⟩:∃ z,bestV (buX true oc) = z:=⟨_,rfl⟩
   obtain ⟨mc,hmc⟩:∃ z,Hc.length = z:=⟨_,rfl⟩
   obtain ⟨ec,hec⟩:∃ z,buE true oc = z:=⟨_,rfl⟩
   have HOc:=Lib.hid hoc
   have HHc:=Lib.hid hHc
   have HTc:=Lib.hid htc
   have HMc:=Lib.hid hmc
   have HEc:=Lib.hid hec
   clear hoc hHc htc hmc hec
   obtain ⟨og,hog⟩:∃ o,bestX (edgesX rs bk cg cs) fr tn clk si de [] = o:=⟨_,rfl⟩
   obtain ⟨Hg,hHg⟩:∃ z,bestH (buX true og) = z:=⟨_,rfl⟩
   obtain ⟨tg,htg⟩:∃ z,bestV (buX true og) = z:=⟨_,rfl⟩
   obtain ⟨mg,hmg⟩:∃ z,Hg.length = z:=⟨_,rfl⟩
   obtain ⟨eg,heg⟩:∃ z,buE true og = z:=⟨_,rfl⟩
   have HOg:=Lib.hid hog
   have HHg:=Lib.hid hHg
   have HTg:=Lib.hid htg
   have HMg:=Lib.hid hmg
   have HEg:=Lib.hid heg
   clear hog hHg htg hmg heg
   have hcls:∀ p,oa = some p → ∃ p',og = some p' ∧ p'.2 ≤ p.2:=fun p hp => by
    have h1:=HOa.out
    rw [hp] at h1
    by_cases h2:cl ≤ 1
    ·have h3:cg = cl + 1:=by omega
     obtain ⟨p',h4,h5⟩:=class_math HRP.out.co HRP.out.rg HRB.out b4_.1 h2 HRP.out.c0 (edges_ask HRP.out HRB.out HBO.out) h1
     exact ⟨p',by rw [← HOg.out,h3]; exact h4,h5⟩
    ·have h3:cg = cl:=by omega
     exact ⟨p,by rw [← HOg.out,h3]; exact h1,Int.le_refl _⟩
   have hlat:∀ p,oc = some p → ∃ H a,oa = some (H,a) ∧ a ≤ p.2 ∧ p.2 ≤ d2:=fun p hp => later_math HRP.out.c0 (Int.le_refl _) b3_.1 hle1 hle2 HOa.out HOc.out hp
   have HBW:=Lib.hid hokw
   have HBG:=Lib.hid hokg
   have HSM2:=Lib.hid hs2_
   have HDM2:=Lib.hid hd2_
   have HCG:=Lib.hid hcg_
   have HCLS:=Lib.hid hcls
   have HLAT:=Lib.hid hlat
   clear hokw hokg hs2_ hd2_ hcg_ hcls hlat
   clear b1_ b2_ b3_ b4_ b5_ b6_ hle1 hle2
   obtain ⟨hP_c0,hP_c1,hP_c2,hP_c3,hP_lt⟩:=hP.cells4
   obtain ⟨hQ_c0,hQ_c1,hQ_c2,hQ_c3,hQ_c4,hQ_lt⟩:=hQ.cells5
   go_wp2_with fail
   try clear hP_c0 hP_c1 hP_c2 hP_c3 hP_lt hQ_c0 hQ_c1 hQ_c2 hQ_c3 hQ_c4 hQ_lt
   refine (buroute_of sortEd_any A1 n1 c1 cs A n c rs clk ver A2 n2 c2 bk fr tn si cl de wk2 HD1.out (by omega) HD.out (by omega) HD2.out (by omega) (HL1.out _ hB) (HL.out _ hB) (HL2.out _ hB) HRP.out.co HRP.out.rg HRB.out true HBO.out oa HOa.out Ha HHa.out ta HTa.out ma HMa.out ea HEa.out).mono ?_
   rintro e wk3 ⟨Aa,ca_,rfl,wa,hb⟩
   have sa:=Sl.of_own wa
   clear wa 
   replace hP:=hP.below hb hP.lt
   replace hQ:=hQ.below hb hQ.lt
   replace hB:=hB.trans (hb.mono hB.size)
   clear hb
   go_upto_region 6 with fail
   have hb:Below wk3.heap.size wk3 (wk3.alloc (.cells #[.slice Aa ma ca_,.int .i64 ta] 31)):=(Below.refl _ _).alloc (Nat.le_refl _) _
   have xa:=Blok.new wk3 31 #[.slice Aa ma ca_,.int .i64 ta]
   obtain ⟨bxa,hbxa⟩:∃ q,wk3.heap.size = q:=⟨_,rfl⟩
   have hsxa:(wk3.alloc (.cells #[.slice Aa ma ca_,.int .i64 ta] 31)).heap.size = bxa + 1:=by rw [← hbxa]; simp
   replace sa:=sa.up hb
   replace hP:=hP.below hb hP.lt
   replace hQ:=hQ.below hb hQ.lt
   replace hB:=hB.trans (hb.mono hB.size)
   clear hb
   generalize wk3.alloc (.cells #[.slice Aa ma ca_,.int .i64 ta] 31) = wk4 at *
   rw [hbxa] at xa
   try rw [hbxa]
   clear hbxa
   try clear hsxa
   obtain ⟨hQ_c0,hQ_c1,hQ_c2,hQ_c3,hQ_c4,hQ_lt⟩:=hQ.cells5
   go_upto_region 7 with fail
   try clear hQ_c0 hQ_c1 hQ_c2 hQ_c3 hQ_c4 hQ_lt
   have O_xw_sa:0 < ma → ∀ ad:Addr,(Aa:Option Addr) = some ad → ad.block ≠ wk4.heap.size:=fun hp ad e he => by
    obtain ⟨a2,e2,hlt,_⟩:=sa.lst.at_ hp
    rw [e] at e2
    injection e2 with e2
    subst e2
    rw [he] at hlt
    exact Nat.lt_irrefl _ hlt
   have N_xw_hP:w.heap.size ≠ wk4.heap.size:=Nat.ne_of_lt hP.lt
   have N_xw_hQ:(w.heap.size + 1) ≠ wk4.heap.size:=Nat.ne_of_lt hQ.lt
   have N_xw_xa:bxa ≠ wk4.heap.size:=Nat.ne_of_lt xa.lt
   have L_xw:w.heap.size ≤ wk4.heap.size:=hB.size
   have hb:Below wk4.heap.size wk4 (wk4.alloc (.cells #[.int .i64 fr,.int .i64 tn,.int .i64 si,.int .i64 cl,.int .i64 de] 28)):=(Below.refl _ _).alloc (Nat.le_refl _) _
   have xw:=Blok.new wk4 28 #[.int .i64 fr,.int .i64 tn,.int .i64 si,.int .i64 cl,.int .i64 de]
   obtain ⟨bxw,hbxw⟩:∃ q,wk4.heap.size = q:=⟨_,rfl⟩
   have hsxw:(wk4.alloc (.cells #[.int .i64 fr,.int .i64 tn,.int .i64 si,.int .i64 cl,.int .i64 de] 28)).heap.size = bxw + 1:=by rw [← hbxw]; simp
   replace sa:=sa.up hb
   replace hP:=hP.below hb hP.lt
   replace hQ:=hQ.below hb hQ.lt
   replace xa:=xa.below hb xa.lt
   replace hB:=hB.trans (hb.mono hB.size)
   clear hb
   generalize wk4.alloc (.cells #[.int .i64 fr,.int .i64 tn,.int .i64 si,.int .i64 cl,.int .i64 de] 28) = wk5 at *
   rw [hbxw] at xw O_xw_sa N_xw_hP N_xw_hQ N_xw_xa L_xw
   try rw [hbxw]
   clear hbxw
   replace O_xw_sa:=Lib.hid O_xw_sa
   replace N_xw_hP:=Lib.hid N_xw_hP
   replace N_xw_hQ:=Lib.hid N_xw_hQ
   replace N_xw_xa:=Lib.hid N_xw_xa
   replace L_xw:=Lib.hid L_xw
   try clear hsxw
   obtain ⟨hQ_c0,hQ_c1,hQ_c2,hQ_c3,hQ_c4,hQ_lt⟩:=hQ.cells5
   obtain ⟨xw_c0,xw_c1,xw_c2,xw_c3,xw_c4,xw_lt⟩:=xw.cells5
   have xw_f:=xw.free 2
   go_upto_region 8 with fail
   try clear hQ_c0 hQ_c1 hQ_c2 hQ_c3 hQ_c4 hQ_lt xw_c0 xw_c1 xw_c2 xw_c3 xw_c4 xw_lt xw_f
   try rw [HSM2.out]
   have K_:Kept (fun g => g = bxw) wk5 (wk5.setCell ⟨bxw,2,none⟩ (.int .i64 s2)):=Kept.of_grown (grown_set _ _ _) (fun k e _ => (Option.some.inj e).symm)
   replace hB:=below_keptJ hB (Nat.le_refl _) K_ (fun k hk => by rw [hk]; exact L_xw.out)
   replace sa:=sa.keptJ K_ O_xw_sa.out
   replace hP:=K_.blok hP (by first | exact N_xw_hP.out | exact (fun e => N_hP_xw.out e.symm))
   replace hQ:=K_.blok hQ (by first | exact N_xw_hQ.out | exact (fun e => N_hQ_xw.out e.symm))
   replace xa:=K_.blok xa (by first | exact N_xw_xa.out | exact (fun e => N_xa_xw.out e.symm))
   replace xw:Blok (wk5.setCell ⟨bxw,2,none⟩ (.int .i64 s2)) bxw 28 #[.int .i64 fr,.int .i64 tn,.int .i64 s2,.int .i64 cl,.int .i64 de]:=xw.set_ 2 (.int .i64 s2)
   clear K_
   generalize wk5.setCell ⟨bxw,2,none⟩ (.int .i64 s2) = wk6 at *
   obtain ⟨hQ_c0,hQ_c1,hQ_c2,hQ_c3,hQ_c4,hQ_lt⟩:=hQ.cells5
   obtain ⟨xw_c0,xw_c1,xw_c2,xw_c3,xw_c4,xw_lt⟩:=xw.cells5
   have xw_f:=xw.free 4
   go_upto_region 9 with fail
   try clear hQ_c0 hQ_c1 hQ_c2 hQ_c3 hQ_c4 hQ_lt xw_c0 xw_c1 xw_c2 xw_c3 xw_c4 xw_lt xw_f
   try rw [HDM2.out]
   have K_:Kept (fun g => g = bxw) wk6 (wk6.setCell ⟨bxw,4,none⟩ (.int .i64 d2)):=Kept.of_grown (grown_set _ _ _) (fun k e _ => (Option.some.inj e).symm)
   replace hB:=below_keptJ hB (Nat.le_refl _) K_ (fun k hk => by rw [hk]; exact L_xw.out)
   replace sa:=sa.keptJ K_ O_xw_sa.out
   replace hP:=K_.blok hP (by first | exact N_xw_hP.out | exact (fun e => N_hP_xw.out e.symm))
   replace hQ:=K_.blok hQ (by first | exact N_xw_hQ.out | exact (fun e => N_hQ_xw.out e.symm))
   replace xa:=K_.blok xa (by first | exact N_xw_xa.out | exact (fun e => N_xa_xw.out e.symm))
   replace xw:Blok (wk6.setCell ⟨bxw,4,none⟩ (.int .i64 d2)) bxw 28 #[.int .i64 fr,.int .i64 tn,.int .i64 s2,.int .i64 cl,.int .i64 d2]:=xw.set_ 4 (.int .i64 d2)
   clear K_
   generalize wk6.setCell ⟨bxw,4,none⟩ (.int .i64 d2) = wk7 at *
   clear hwr1 hwr2
   obtain ⟨hP_c0,hP_c1,hP_c2,hP_c3,hP_lt⟩:=hP.cells4
   obtain ⟨xw_c0,xw_c1,xw_c2,xw_c3,xw_c4,xw_lt⟩:=xw.cells5
   go_wp2_with fail
   try clear hP_c0 hP_c1 hP_c2 hP_c3 hP_lt xw_c0 xw_c1 xw_c2 xw_c3 xw_c4 xw_lt
   refine (buroute_of sortEd_any A1 n1 c1 cs A n c rs clk ver A2 n2 c2 bk fr tn s2 cl d2 wk7 HD1.out (by omega) HD.out (by omega) HD2.out (by omega) (HL1.out _ hB) (HL.out _ hB) (HL2.out _ hB) HRP.out.co HRP.out.rg HRB.out true HBW.out oc HOc.out Hc HHc.out tc HTc.out mc HMc.out ec HEc.out).mono ?_
   rintro e wk8 ⟨Ac,cc_,rfl,wc,hb⟩
   have sc:=Sl.of_own wc
   clear wc 
   replace sa:=sa.up hb
   replace hP:=hP.below hb hP.lt
   replace hQ:=hQ.below hb hQ.lt
   replace xa:=xa.below hb xa.lt
   replace xw:=xw.below hb xw.lt
   replace hB:=hB.trans (hb.mono hB.size)
   clear hb
   go_upto_region 10 with fail
   have N_xc_xw:bxw ≠ wk8.heap.size:=Nat.ne_of_lt xw.lt
   have hb:Below wk8.heap.size wk8 (wk8.alloc (.cells #[.slice Ac mc cc_,.int .i64 tc] 31)):=(Below.refl _ _).alloc (Nat.le_refl _) _
   have xc:=Blok.new wk8 31 #[.slice Ac mc cc_,.int .i64 tc]
   obtain ⟨bxc,hbxc⟩:∃ q,wk8.heap.size = q:=⟨_,rfl⟩
   have hsxc:(wk8.alloc (.cells #[.slice Ac mc cc_,.int .i64 tc] 31)).heap.size = bxc + 1:=by rw [← hbxc]; simp
   replace sa:=sa.up hb
   replace sc:=sc.up hb
   replace hP:=hP.below hb hP.lt
   replace hQ:=hQ.below hb hQ.lt
   replace xa:=xa.below hb xa.lt
   replace xw:=xw.below hb xw.lt
   replace hB:=hB.trans (hb.mono hB.size)
   clear hb
   generalize wk8.alloc (.cells #[.slice Ac mc cc_,.int .i64 tc] 31) = wk9 at *
   rw [hbxc] at xc N_xc_xw
   try rw [hbxc]
   clear hbxc
   replace N_xc_xw:=Lib.hid N_xc_xw
   try clear hsxc
   obtain ⟨hQ_c0,hQ_c1,hQ_c2,hQ_c3,hQ_c4,hQ_lt⟩:=hQ.cells5
   go_upto_region 11 with fail
   try clear hQ_c0 hQ_c1 hQ_c2 hQ_c3 hQ_c4 hQ_lt
   have O_xg_sa:0 < ma → ∀ ad:Addr,(Aa:Option Addr) = some ad → ad.block ≠ wk9.heap.size:=fun hp ad e he => by
    obtain ⟨a2,e2,hlt,_⟩:=sa.lst.at_ hp
    rw [e] at e2
    injection e2 with e2
    subst e2
    rw [he] at hlt
    exact Nat.lt_irrefl _ hlt
   have O_xg_sc:0 < mc → ∀ ad:Addr,(Ac:Option Addr) = some ad → ad.block ≠ wk9.heap.size:=fun hp ad e he => by
    obtain ⟨a2,e2,hlt,_⟩:=sc.lst.at_ hp
    rw [e] at e2
    injection e2 with e2
    subst e2
    rw [he] at hlt
    exact Nat.lt_irrefl _ hlt
   have N_xg_hP:w.heap.size ≠ wk9.heap.size:=Nat.ne_of_lt hP.lt
   have N_xg_hQ:(w.heap.size + 1) ≠ wk9.heap.size:=Nat.ne_of_lt hQ.lt
   have N_xg_xa:bxa ≠ wk9.heap.size:=Nat.ne_of_lt xa.lt
   have N_xg_xw:bxw ≠ wk9.heap.size:=Nat.ne_of_lt xw.lt
   have N_xg_xc:bxc ≠ wk9.heap.size:=Nat.ne_of_lt xc.lt
   have L_xg:w.heap.size ≤ wk9.heap.size:=hB.size
   have hb:Below wk9.heap.size wk9 (wk9.alloc (.cells #[.int .i64 fr,.int .i64 tn,.int .i64 si,.int .i64 cl,.int .i64 de] 28)):=(Below.refl _ _).alloc (Nat.le_refl _) _
   have xg:=Blok.new wk9 28 #[.int .i64 fr,.int .i64 tn,.int .i64 si,.int .i64 cl,.int .i64 de]
   obtain ⟨bxg,hbxg⟩:∃ q,wk9.heap.size = q:=⟨_,rfl⟩
   have hsxg:(wk9.alloc (.cells #[.int .i64 fr,.int .i64 tn,.int .i64 si,.int .i64 cl,.int .i64 de] 28)).heap.size = bxg + 1:=by rw [← hbxg]; simp
   replace sa:=sa.up hb
   replace sc:=sc.up hb
   replace hP:=hP.below hb hP.lt
   replace hQ:=hQ.below hb hQ.lt
   replace xa:=xa.below hb xa.lt
   replace xw:=xw.below hb xw.lt
   replace xc:=xc.below hb xc.lt
   replace hB:=hB.trans (hb.mono hB.size)
   clear hb
   generalize wk9.alloc (.cells #[.int .i64 fr,.int .i64 tn,.int .i64 si,.int .i64 cl,.int .i64 de] 28) = wk10 at *
   rw [hbxg] at xg O_xg_sa O_xg_sc N_xg_hP N_xg_hQ N_xg_xa N_xg_xw N_xg_xc L_xg
   try rw [hbxg]
   clear hbxg
   replace O_xg_sa:=Lib.hid O_xg_sa
   replace O_xg_sc:=Lib.hid O_xg_sc
   replace N_xg_hP:=Lib.hid N_xg_hP
   replace N_xg_hQ:=Lib.hid N_xg_hQ
   replace N_xg_xa:=Lib.hid N_xg_xa
   replace N_xg_xw:=Lib.hid N_xg_xw
   replace N_xg_xc:=Lib.hid N_xg_xc
   replace L_xg:=Lib.hid L_xg
   try clear hsxg
   obtain ⟨hQ_c0,hQ_c1,hQ_c2,hQ_c3,hQ_c4,hQ_lt⟩:=hQ.cells5
   obtain ⟨xg_c0,xg_c1,xg_c2,xg_c3,xg_c4,xg_lt⟩:=xg.cells5
   have xg_f:=xg.free 3
   go_upto_region 12 with fail
   try clear hQ_c0 hQ_c1 hQ_c2 hQ_c3 hQ_c4 hQ_lt xg_c0 xg_c1 xg_c2 xg_c3 xg_c4 xg_lt xg_f
   try rw [HCG.out]
   have K_:Kept (fun g => g = bxg) wk10 (wk10.setCell ⟨bxg,3,none⟩ (.int .i64 cg)):=Kept.of_grown (grown_set _ _ _) (fun k e _ => (Option.some.inj e).symm)
   replace hB:=below_keptJ hB (Nat.le_refl _) K_ (fun k hk => by rw [hk]; exact L_xg.out)
   replace sa:=sa.keptJ K_ O_xg_sa.out
   replace sc:=sc.keptJ K_ O_xg_sc.out
   replace hP:=K_.blok hP (by first | exact N_xg_hP.out | exact (fun e => N_hP_xg.out e.symm))
   replace hQ:=K_.blok hQ (by first | exact N_xg_hQ.out | exact (fun e => N_hQ_xg.out e.symm))
   replace xa:=K_.blok xa (by first | exact N_xg_xa.out | exact (fun e => N_xa_xg.out e.symm))
   replace xw:=K_.blok xw (by first | exact N_xg_xw.out | exact (fun e => N_xw_xg.out e.symm))
   replace xc:=K_.blok xc (by first | exact N_xg_xc.out | exact (fun e => N_xc_xg.out e.symm))
   replace xg:Blok (wk10.setCell ⟨bxg,3,none⟩ (.int .i64 cg)) bxg 28 #[.int .i64 fr,.int .i64 tn,.int .i64 si,.int .i64 cg,.int .i64 de]:=xg.set_ 3 (.int .i64 cg)
   clear K_
   generalize wk10.setCell ⟨bxg,3,none⟩ (.int .i64 cg) = wk11 at *
   clear hwr3
   obtain ⟨hP_c0,hP_c1,hP_c2,hP_c3,hP_lt⟩:=hP.cells4
   obtain ⟨xg_c0,xg_c1,xg_c2,xg_c3,xg_c4,xg_lt⟩:=xg.cells5
   go_wp2_with fail
   try clear hP_c0 hP_c1 hP_c2 hP_c3 hP_lt xg_c0 xg_c1 xg_c2 xg_c3 xg_c4 xg_lt
   refine (buroute_of sortEd_any A1 n1 c1 cs A n c rs clk ver A2 n2 c2 bk fr tn si cg de wk11 HD1.out (by omega) HD.out (by omega) HD2.out (by omega) (HL1.out _ hB) (HL.out _ hB) (HL2.out _ hB) HRP.out.co HRP.out.rg HRB.out true HBG.out og HOg.out Hg HHg.out tg HTg.out mg HMg.out eg HEg.out).mono ?_
   rintro e wk12 ⟨Ag,cg_,rfl,wg,hb⟩
   have sg:=Sl.of_own wg
   clear wg 
   replace sa:=sa.up hb
   replace sc:=sc.up hb
   replace hP:=hP.below hb hP.lt
   replace hQ:=hQ.below hb hQ.lt
   replace xa:=xa.below hb xa.lt
   replace xw:=xw.below hb xw.lt
   replace xc:=xc.below hb xc.lt
   replace xg:=xg.below hb xg.lt
   replace hB:=hB.trans (hb.mono hB.size)
   clear hb
   go_upto_region 13 with fail
   have N_xd_xw:bxw ≠ wk12.heap.size:=Nat.ne_of_lt xw.lt
   have N_xd_xg:bxg ≠ wk12.heap.size:=Nat.ne_of_lt xg.lt
   have hb:Below wk12.heap.size wk12 (wk12.alloc (.cells #[.slice Ag mg cg_,.int .i64 tg] 31)):=(Below.refl _ _).alloc (Nat.le_refl _) _
   have xd:=Blok.new wk12 31 #[.slice Ag mg cg_,.int .i64 tg]
   obtain ⟨bxd,hbxd⟩:∃ q,wk12.heap.size = q:=⟨_,rfl⟩
   have hsxd:(wk12.alloc (.cells #[.slice Ag mg cg_,.int .i64 tg] 31)).heap.size = bxd + 1:=by rw [← hbxd]; simp
   replace sa:=sa.up hb
   replace sc:=sc.up hb
   replace sg:=sg.up hb
   replace hP:=hP.below hb hP.lt
   replace hQ:=hQ.below hb hQ.lt
   replace xa:=xa.below hb xa.lt
   replace xw:=xw.below hb xw.lt
   replace xc:=xc.below hb xc.lt
   replace xg:=xg.below hb xg.lt
   replace hB:=hB.trans (hb.mono hB.size)
   clear hb
   generalize wk12.alloc (.cells #[.slice Ag mg cg_,.int .i64 tg] 31) = wk13 at *
   rw [hbxd] at xd N_xd_xw N_xd_xg
   try rw [hbxd]
   clear hbxd
   replace N_xd_xw:=Lib.hid N_xd_xw
   replace N_xd_xg:=Lib.hid N_xd_xg
   rcases oc with _ | pc
   ·obtain rfl:ec = 6:=HEc.out.symm
    obtain rfl:tc = 0:=HTc.out.symm
    obtain rfl:Hc = []:=HHc.out.symm
    obtain rfl:mc = 0:=HMc.out.symm
    rcases oa with _ | p
    ·obtain rfl:ea = 6:=HEa.out.symm
     obtain rfl:ta = 0:=HTa.out.symm
     obtain rfl:Ha = []:=HHa.out.symm
     obtain rfl:ma = 0:=HMa.out.symm
     try clear hsxd
     obtain ⟨xa_c0,xa_c1,xa_lt⟩:=xa.cells2
     obtain ⟨xc_c0,xc_c1,xc_lt⟩:=xc.cells2
     obtain ⟨xd_c0,xd_c1,xd_lt⟩:=xd.cells2
     go_wp2_with fail
     try clear xa_c0 xa_c1 xa_lt xc_c0 xc_c1 xc_lt xd_c0 xd_c1 xd_lt
     go_ret
     exact ⟨rfl,hB⟩
    ·obtain rfl:ea = 0:=HEa.out.symm
     obtain ⟨p',hp',hle⟩:=HCLS.out p rfl
     subst hp'
     obtain rfl:eg = 0:=HEg.out.symm
     have hle2:tg ≤ ta:=by rw [← HTg.out,← HTa.out]; exact hle
     clear hle
     try clear hsxd
     obtain ⟨xa_c0,xa_c1,xa_lt⟩:=xa.cells2
     obtain ⟨xc_c0,xc_c1,xc_lt⟩:=xc.cells2
     obtain ⟨xd_c0,xd_c1,xd_lt⟩:=xd.cells2
     go_wp2_with fail
     try clear xa_c0 xa_c1 xa_lt xc_c0 xc_c1 xc_lt xd_c0 xd_c1 xd_lt
     go_ret
     exact ⟨rfl,hB⟩
   ·obtain rfl:ec = 0:=HEc.out.symm
    obtain ⟨H0,a0,hoa,hle,_⟩:=HLAT.out pc rfl
    subst hoa
    obtain rfl:ea = 0:=HEa.out.symm
    obtain ⟨p',hp',hle'⟩:=HCLS.out (H0,a0) rfl
    subst hp'
    obtain rfl:eg = 0:=HEg.out.symm
    have hle2:tg ≤ ta:=by rw [← HTg.out,← HTa.out]; exact hle'
    have hle3:¬ tc < ta:=by rw [← HTc.out,← HTa.out]; show ¬ pc.2 < a0; omega
    clear hle hle'
    try clear hsxd
    obtain ⟨xa_c0,xa_c1,xa_lt⟩:=xa.cells2
    obtain ⟨xc_c0,xc_c1,xc_lt⟩:=xc.cells2
    obtain ⟨xd_c0,xd_c1,xd_lt⟩:=xd.cells2
    go_wp2_with fail
    try clear xa_c0 xa_c1 xa_lt xc_c0 xc_c1 xc_lt xd_c0 xd_c1 xd_lt
    go_ret
    exact ⟨rfl,hB⟩
theorem bundleOrder_walk (A1:Option Addr) (n1 c1:Nat) (ns1:List Int) (A:Option Addr) (n c:Nat) (ns:List Int) (clk ver:Int) (A2:Option Addr) (n2 c2:Nat) (ns2:List Int) (fr tn si cl de:Int) (more:Int) (earlier:Int) (hnl1:ns1.length = n1 * 6) (_:∀ m ∈ ns1,(Lit.int .i64 m).wf = true) (hnl:ns.length = n * 5) (_:∀ m ∈ ns,(Lit.int .i64 m).wf = true) (_:(Lit.int .i64 clk).wf = true) (_:(Lit.int .i64 ver).wf = true) (hnl2:ns2.length = n2 * 4) (_:∀ m ∈ ns2,(Lit.int .i64 m).wf = true) (_:∀ m ∈ [fr,tn,si,cl,de],(Lit.int .i64 m).wf = true) (_:(Lit.int .i64 more).wf = true) (_:(Lit.int .i64 earlier).wf = true) (w:World) (h1:Sl w w.heap.size 6 A1 n1 c1 (ns1.map (Value.int .i64))) (h:Sl w w.heap.size 5 A n c (ns.map (Value.int .i64))) (h2:Sl w w.heap.size 4 A2 n2 c2 (ns2.map (Value.int .i64))) :
  Calls Tryz.prog 5 #[.agg #[.slice A1 n1 c1,.slice A n c,.int .i64 clk,.int .i64 ver],.slice A2 n2 c2,.agg #[.int .i64 fr,.int .i64 tn,.int .i64 si,.int .i64 cl,.int .i64 de],.int .i64 more,.int .i64 earlier] w fun e w' => e = .returned (.bool true) ∧ Below w.heap.size w w':=by
 obtain ⟨cs,hd1,hf1⟩:=rowsCo_of n1 ns1 hnl1
 obtain ⟨rs,hd,hf⟩:=rowsRg_of n ns hnl
 rw [hf1] at h1
 rw [hf] at h
 obtain ⟨bk,hd2,hf2⟩:=rowsBk_of n2 ns2 hnl2
 rw [hf2] at h2
 exact bundleOrder_w A1 n1 c1 cs A n c rs clk ver A2 n2 c2 bk fr tn si cl de more earlier w hd1 hd hd2 h1 h h2
theorem bundleOrder_own:ownKnob Tryz.prog.godebug = none:=by kernel_rfl
theorem bundleOrder_laidOut:laidOutB Tryz.prog = true:=by kernel_rfl

set_option maxHeartbeats 1000000 in
set_option maxRecDepth 100000 in
theorem bundleOrder_lifted (os:Os) (started:os.Started) (H:Type) (enc:TypeId × Value → H) :
  ReturnsInHanded {} Tryz.checked os 5 .any (Rows.bundleOrderSpec.pre6 enc Tryz.prog Tryz.f5 Rows.bundleOrderRow.domain false) (Rows.bundleOrderSpec.post enc Tryz.prog Tryz.f5 false true false false):=by
 refine returnsInHanded_of_change (C:=Tryz.checked) bundleOrder_own started (by kernel_rfl) Tryz.func5
  (ChangeSpec.witness6 (enc:=enc) (C:=Tryz.checked) false ⟨#[],#[.agg #[.slice none 0 0,.slice none 0 0,.int .i64 0,.int .i64 0],.slice none 0 0,.agg #[.int .i64 0,.int .i64 0,.int .i64 0,.int .i64 0,.int .i64 0],.int .i64 0,.int .i64 0],[]⟩ 8 (by kernel_rfl) (by kernel_rfl) (by kernel_rfl) (by kernel_rfl)) ?_
 intro W base args ds gs before hval0 hW hcnd _
 have hval:∀ (j:Nat) t v,Tryz.f5.params[j]? = some t → args[j]? = some v → Value.okWide Tryz.prog W .any base t v:=hval0
 have hW':=hW
 obtain ⟨p,q,hA0,hV,rfl,hfz,hnd⟩:=hW
 have hA:DataW.TrodAll enc Tryz.prog W 0 (fun _ => true) true Tryz.f5.params.toList args.toList ds p:=hA0
 rw [Tryz.params5] at hA hval
 obtain ⟨v0,vs0,d0,ds0,p0,q0,hargs,rfl,rfl,h0,r0⟩:=trodAll_cons hA
 obtain ⟨v1,vs1,d1,ds1,p1,q1,rfl,rfl,rfl,h1,r1⟩:=trodAll_cons r0
 obtain ⟨v2,vs2,d2,ds2,p2,q2,rfl,rfl,rfl,h2,r2⟩:=trodAll_cons r1
 obtain ⟨v3,vs3,d3,ds3,p3,q3,rfl,rfl,rfl,h3,r3⟩:=trodAll_cons r2
 obtain ⟨v4,vs4,d4,ds4,p4,q4,rfl,rfl,rfl,h4,r4⟩:=trodAll_cons r3
 obtain ⟨rfl,rfl,rfl⟩:=trodAll_nil r4
 obtain rfl:args = #[v0,v1,v2,v3,v4]:=by cases args; simp_all
 obtain ⟨rfl,rfl⟩:=trodVars_none hV
 obtain ⟨A0,n0,c0,ns0,B0,m0,k0,ms0,x0,y0,rfl,hl0,nl0,w0,hm0,ml0,wm0,wx0,wy0⟩:=open_plan 4 (e0:=59) (e1:=100) (K0:=6) (K1:=5) Tryz.underlying25 (by kernel_rfl) (by kernel_rfl) (by kernel_rfl) (by kernel_rfl) (by kernel_rfl) (by kernel_rfl) (by kernel_rfl) (by kernel_rfl) (by omega) (by kernel_rfl) (by omega) (hval 0 25 v0 rfl rfl) h0
 obtain ⟨A1,n1,c1,ns1,rfl,hl1,nl1,w1⟩:=open_rowsS 4 (K:=4) Tryz.underlying26 (by kernel_rfl) (by kernel_rfl) (by omega) (hval 1 26 v1 rfl rfl) h1
 obtain ⟨n2,e2,l2,w2⟩:=open_flat 4 Tryz.underlying28 (by kernel_rfl) (hval 2 28 v2 rfl rfl) h2
 obtain ⟨a2_0,a2_1,a2_2,a2_3,a2_4,rfl⟩:∃ a2_0 a2_1 a2_2 a2_3 a2_4:Int,n2 = [a2_0,a2_1,a2_2,a2_3,a2_4]:=by
  rw [show Tryz.prog.cellsOf 28 = 5 by kernel_rfl] at l2
  match n2,l2 with
  | [a2_0,a2_1,a2_2,a2_3,a2_4],_ => exact ⟨_,_,_,_,_,rfl⟩
 obtain rfl:v2 = .agg #[.int .i64 a2_0,.int .i64 a2_1,.int .i64 a2_2,.int .i64 a2_3,.int .i64 a2_4]:=e2
 obtain ⟨a3,rfl,rfl,rfl,w3⟩:=open_int Tryz.underlying3 (hval 3 3 v3 rfl rfl) h3
 obtain ⟨a4,rfl,rfl,rfl,w4⟩:=open_int Tryz.underlying3 (hval 4 3 v4 rfl rfl) h4
 clear hA0 hval0
 refine (bundleOrder_walk A0 n0 c0 ns0 B0 m0 k0 ms0 x0 y0 A1 n1 c1 ns1 a2_0 a2_1 a2_2 a2_3 a2_4 a3 a4 nl0 w0 ml0 wm0 wx0 wy0 nl1 w1 w2 w3 w4 W hl0 hm0 hl1).mono fun e W' ⟨he,bel⟩ => ?_
 subst he
 exact ⟨_,rfl,law_post bundleOrder_laidOut (by kernel_rfl) rfl Tryz.underlying4 rfl rfl hW' bel⟩

theorem bundleOrder_proved:Rows.BundleOrderSaid:=
 OpenClaim.holds_of_wide 5 Tryz.f5 rfl rfl rfl rfl rfl rfl rfl ⟨rfl,rfl,rfl,rfl,rfl⟩ rfl rfl rfl rfl rfl (by kernel_rfl) Tryz.func5 (by kernel_rfl)
  (of_decide_eq_true (by kernel_rfl)) (by unfold Func.isWrapper; first | (rw [if_pos (by decide +kernel)]; kernel_rfl) | (rw [if_neg (by decide +kernel)]; exact ⟨rfl,rfl⟩))
  (fun os started H enc _ => bundleOrder_lifted os started H enc)
#print axioms bundleOrder_proved
end Go.Proofs.YtodcoockhkghdaaGreat
