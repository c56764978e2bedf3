/- If nothing is booked a bundle of size 0 goes by the first one of all, and all of these rise: BundleBare returns true. No condition. -/
import Derived.Test.YtodcoockhkghdaaGreatRows
import Derived.Test.YtodcoockhkghdaaGreatSmall20
import Derived.Test.YtodcoockhkghdaaGreatGQ32
import Derived.Test.YtodcoockhkghdaaGreatGQ5
import Derived.Test.YtodcoockhkghdaaGreatGQ33
import Derived.BigQuiet
import Derived.Deep.QuietTactic
import Derived.Test.YtodcoockhkghdaaGreatGQ29
import Derived.Test.YtodcoockhkghdaaGreatGQ34
import Derived.Test.YtodcoockhkghdaaGreatGQ35
import Derived.Test.YtodcoockhkghdaaGreatGQ24
import Derived.Test.YtodcoockhkghdaaGreatGQ4
import Derived.Test.YtodcoockhkghdaaGreatGQ28
import Derived.Test.YtodcoockhkghdaaGreatGQ25
namespace Go.Proofs.YtodcoockhkghdaaGreat
open Go.ChangeShapes Go.WideShapes Go.ChangeAt Go.RowKit Go.Sort Go.Maps Hp Kv
set_option linter.unusedSimpArgs false
set_option linter.unusedVariables false
set_option maxHeartbeats 16000000 in
set_option maxRecDepth 100000 in
theorem bundleBare_w (A1:Option Addr) (n1 c1:Nat) (cs:List Co) (A:Option Addr) (n c:Nat) (rs:List Rg) (clk ver:Int) (fr:Int) (tn:Int) (cl:Int) (k:Int) (w:World) (hd1:cs.length = n1) (hd:rs.length = n) (h1:Sl w w.heap.size 6 A1 n1 c1 (flatCo cs)) (h:Sl w w.heap.size 5 A n c (flatRg rs)) :
  Calls Tryz.prog 6 #[.agg #[.slice A1 n1 c1,.slice A n c,.int .i64 clk,.int .i64 ver],.int .i64 fr,.int .i64 tn,.int .i64 cl,.int .i64 k] w fun e w' => e = .returned (.bool true) ∧ Below w.heap.size w w':=by
 have hP:=Blok.new w 25 #[.slice A1 n1 c1,.slice A n c,.int .i64 clk,.int .i64 ver]
 have hB:Below w.heap.size w (w.alloc (.cells #[.slice A1 n1 c1,.slice A n c,.int .i64 clk,.int .i64 ver] 25)):=by (repeat (first | exact Below.refl _ _ | refine Below.alloc ?_ (by first | omega | (simp; done) | (simp; omega)) _ | refine Below.setCell ?_ (by first | omega | (simp; done) | (simp; omega)) _ | refine Below.drew ?_))
 have HD1:=Lib.hid hd1
 have HD:=Lib.hid hd
 have HL1:=Lib.hid (fun w' (hb:Below w.heap.size w w') => h1.up hb)
 have HL:=Lib.hid (fun w' (hb:Below w.heap.size w w') => h.up hb)
 clear hd1 hd h1 h
 go_enter Tryz.func6,Tryz.ntmps6
 go_wp2_with fail
 generalize w.alloc (.cells #[.slice A1 n1 c1,.slice A n c,.int .i64 clk,.int .i64 ver] 25) = w0 at *
 refine (small20_any w0).mono ?_
 rintro e w1 ⟨rfl,hb⟩
 replace hP:=hP.below hb hP.lt
 replace hB:=hB.trans (hb.mono hB.size)
 clear hb
 obtain ⟨sm,hsm⟩:∃ z,smallP cs rs clk ver [] = z:=⟨_,rfl⟩
 have HSM:=Lib.hid hsm
 clear hsm
 obtain ⟨hP_c0,hP_c1,hP_c2,hP_c3,hP_lt⟩:=hP.cells4
 go_wp2_with fail
 try clear hP_c0 hP_c1 hP_c2 hP_c3 hP_lt
 refine (Small20_any A1 n1 c1 cs A n c rs clk ver none 0 0 [] w1 HD1.out HD.out rfl (HL1.out _ hB) (HL.out _ hB) (Sl.nil0 _ _ _) sm HSM.out).mono ?_
 rintro e wk1 ⟨rfl,hb⟩
 replace hP:=hP.below hb hP.lt
 replace hB:=hB.trans (hb.mono hB.size)
 clear hb
 cases sm with
 | false =>
  go_wp2_with fail
  go_ret
  exact ⟨rfl,hB⟩
 | true =>
  obtain ⟨⟨hk1,hk2,hk3⟩,hrp,hrb⟩:=smallP_spec.1 HSM.out
  rw [HD1.out] at hk1
  rw [HD.out] at hk2
  clear hk3
  have HRP:=Lib.hid hrp
  have HRB:=Lib.hid hrb
  clear hrp hrb
  clear HSM
  obtain ⟨kc,hkc⟩:∃ z,clampF cl 0 2 = z:=⟨_,rfl⟩
  obtain ⟨b2,hb2⟩:∃ z,bundleB fr tn 0 kc 1099511627776 = z:=⟨_,rfl⟩
  obtain ⟨k1,hk1_⟩:∃ z,(nodeB fr && nodeB tn && inB k 1 8) = z:=⟨_,rfl⟩
  obtain ⟨Ra,hRa⟩:∃ z,liX k1 (edgesX rs [] 0 cs) fr tn clk k = z:=⟨_,rfl⟩
  obtain ⟨ma,hma⟩:∃ z,Ra.length = z:=⟨_,rfl⟩
  obtain ⟨el,hel⟩:∃ z,(if k1 = true then (0:Int) else 1) = z:=⟨_,rfl⟩
  have hkr:0 ≤ kc ∧ kc ≤ 2:=by rw [← hkc]; unfold clampF; split <;> (try split) <;> omega
  have hbn:b2 = (nodeB fr && nodeB tn):=by
   rw [← hb2]
   unfold bundleB
   have h1:inB 0 0 1099511627775 = true:=by decide
   have h2:inB kc 0 2 = true:=by unfold inB; exact decide_eq_true hkr
   have h3:inB 1099511627776 0 1099511627776 = true:=by decide
   rw [h1,h2,h3,Bool.and_true,Bool.and_true,Bool.and_true]
  have hk12:k1 = (b2 && inB k 1 8):=by rw [← hk1_,hbn]
  have hed:edgesX rs [] kc cs = edgesX rs [] 0 cs:=edgesX_bare (by unfold inB; exact decide_eq_true hkr)
  have HKC:=Lib.hid hkc
  have HB2:=Lib.hid hb2
  have HK1:=Lib.hid hk1_
  have HRa:=Lib.hid hRa
  have HMa:=Lib.hid hma
  have HEL:=Lib.hid hel
  have HK12:=Lib.hid hk12
  have HED:=Lib.hid hed
  clear hkc hb2 hk1_ hRa hma hel hk12 hed
  clear hbn hkr
  obtain ⟨or,hor⟩:∃ o,bestX (edgesX rs [] kc cs) fr tn clk 0 1099511627776 [] = o:=⟨_,rfl⟩
  obtain ⟨Hr,hHr⟩:∃ z,bestH (buX b2 or) = z:=⟨_,rfl⟩
  obtain ⟨tr,htr⟩:∃ z,bestV (buX b2 or) = z:=⟨_,rfl⟩
  obtain ⟨mr,hmr⟩:∃ z,Hr.length = z:=⟨_,rfl⟩
  obtain ⟨er,her⟩:∃ z,buE b2 or = z:=⟨_,rfl⟩
  have HOr:=Lib.hid hor
  have HHr:=Lib.hid hHr
  have HTr:=Lib.hid htr
  have HMr:=Lib.hid hmr
  have HEr:=Lib.hid her
  clear hor hHr htr hmr her
  obtain ⟨hP_c0,hP_c1,hP_c2,hP_c3,hP_lt⟩:=hP.cells4
  go_wp2_with fail
  try clear hP_c0 hP_c1 hP_c2 hP_c3 hP_lt
  refine (bulist_of sortEd_any A1 n1 c1 cs A n c rs clk ver fr tn k wk1 HD1.out (by omega) HD.out (by omega) (HL1.out _ hB) (HL.out _ hB) HRP.out.co HRP.out.rg k1 HK1.out Ra HRa.out ma HMa.out).mono ?_
  rintro e wk2 ⟨Av,cv,rfl,ra,hb⟩
  replace hP:=hP.below hb hP.lt
  replace hB:=hB.trans (hb.mono hB.size)
  clear hb
  rw [HEL.out]
  go_upto_region 6 with fail
  have FhP:=Lib.hid (fun w' (hb:Below wk2.heap.size wk2 w') => hP.below hb hP.lt)
  have H_hP:=Lib.hid hP
  have Fra:=Lib.hid (fun w' (hb:Below wk2.heap.size wk2 w') => ra.below hb)
  have HBA:=Lib.hid hB
  have HUP:Hid (∀ w',Below wk2.heap.size wk2 w' → Below w.heap.size w w'):=fun w' hb => HBA.out.trans (hb.mono HBA.out.size)
  clear hP ra hB
  have hinj:∀ a c:Value,(fun u:Value => Value.tuple #[.agg #[u,.int .i64 tr],.int .i64 er]) a = (fun u:Value => Value.tuple #[.agg #[u,.int .i64 tr],.int .i64 er]) c → a = c:=fun a c h => by simpa using h
  have HINJ:=Lib.hid hinj
  clear hinj
  refine gen_frame ?_
  intro a0 ha0
  try simp only [List.append]
  refine wp_region_frames rfl (by kernel_rfl) (by kernel_rfl) (fun V x w' => Below wk2.heap.size wk2 w' ∧ TF [(0,.agg #[.slice A1 n1 c1,.slice A n c,.int .i64 clk,.int .i64 ver]),(1,.int .i64 fr),(2,.int .i64 tn),(3,.int .i64 cl),(4,.int .i64 kc),(5,.agg #[.int .i64 fr,.int .i64 tn,.int .i64 0,.int .i64 kc,.int .i64 1099511627776]),(9,.int .i64 er),(12,.int .i64 er)] V x ∧ (V.getD 6 true = true → Fin1 (fun u:Value => Value.tuple #[.agg #[u,.int .i64 tr],.int .i64 er]) wk2.heap.size 67 3 mr (flatHp Hr) w' (x 6)) ∧ (V.getD 7 true = true → x 7 = x 6) ∧ (V.getD 8 true = true → ∀ u,x 6 = (fun u:Value => Value.tuple #[.agg #[u,.int .i64 tr],.int .i64 er]) u → x 8 = (fun u:Value => Value.agg #[u,.int .i64 tr]) u) ∧ (V.getD 10 true = true → V.getD 11 true = false → VarP wk2.heap.size 31 #[.slice none 0 0,.int .i64 0] w' (x 10) (fun b => V.getD 6 true = true → Off1 (fun u:Value => Value.tuple #[.agg #[u,.int .i64 tr],.int .i64 er]) b (x 6))) ∧ (V.getD 11 true = true → StoP wk2.heap.size 31 w' (x 10) (x 8))) ?_ ?_ ?_
  ·intro x
   refine ⟨(Below.refl _ _).drew,TF.none rfl,?_,?_,?_,?_,?_⟩ <;> exact fun h => by simp at h
  ·intro V x b w' hbq hsz hF i hi hun haf hcl
   obtain ⟨hBw,hT,f6,f7,f8,f10,f11⟩:=hF
   have hbe:b = putAll a0 [some 33,some 34,some 35,some 36,some 37,some 38,some 39,some 32,some 40,some 41,some 15,none,some 16] x 0:=hbq
   have hz0:a0.tmps.size = 114:=by rw [ha0]; rfl
   have e1:b.eval (.tmp 1) = .int .i64 fr:=by rw [hbe,eval_out _ _ _ (by decide),ha0]; rfl
   have t1:b.tmps[1]?.getD undef = .int .i64 fr:=by simpa [Act.eval] using e1
   have e2:b.eval (.tmp 2) = .int .i64 tn:=by rw [hbe,eval_out _ _ _ (by decide),ha0]; rfl
   have t2:b.tmps[2]?.getD undef = .int .i64 tn:=by simpa [Act.eval] using e2
   have e3:b.eval (.tmp 3) = .int .i64 cl:=by rw [hbe,eval_out _ _ _ (by decide),ha0]; rfl
   have t3:b.tmps[3]?.getD undef = .int .i64 cl:=by simpa [Act.eval] using e3
   have e5:b.eval (.tmp 5) = .pointer (some ⟨w.heap.size,0,none⟩):=by rw [hbe,eval_out _ _ _ (by decide),ha0]; rfl
   have t5:b.tmps[5]?.getD undef = .pointer (some ⟨w.heap.size,0,none⟩):=by simpa [Act.eval] using e5
   have evc:∀ v,b.eval (.const v) = v:=fun _ => rfl
   have B0:=Below.refl w'.heap.size w'
   have EI:∀ (k e:Nat),([some 33,some 34,some 35,some 36,some 37,some 38,some 39,some 32,some 40,some 41,some 15,none,some 16]:List (Option Tmp))[k]? = some (some e) → e < 114 → b.eval (.tmp e) = x k:=fun k e h1 h2 => by rw [hbe,eval_in _ _ _ k (by decide) h1 (by rw [hz0]; exact h2),Nat.zero_add]
   clear hbq
   have hi':i < 13:=hi
   clear hi
   obtain rfl | rfl | rfl | rfl | rfl | rfl | rfl | rfl | rfl | rfl | rfl | rfl | rfl:i = 0 ∨ i = 1 ∨ i = 2 ∨ i = 3 ∨ i = 4 ∨ i = 5 ∨ i = 6 ∨ i = 7 ∨ i = 8 ∨ i = 9 ∨ i = 10 ∨ i = 11 ∨ i = 12:=by omega
   ·have bq:=H_hP.out.below hBw H_hP.out.lt
    have n_0:w'.cell? ⟨w.heap.size,0,none⟩ = some (.slice A1 n1 c1):=bq.cell 0
    have n_1:w'.cell? ⟨w.heap.size,1,none⟩ = some (.slice A n c):=bq.cell 1
    have n_2:w'.cell? ⟨w.heap.size,2,none⟩ = some (.int .i64 clk):=bq.cell 2
    have n_3:w'.cell? ⟨w.heap.size,3,none⟩ = some (.int .i64 ver):=bq.cell 3
    have lt_n:=bq.lt
    refine wpOp_runs (v:=.agg #[.slice A1 n1 c1,.slice A n c,.int .i64 clk,.int .i64 ver]) rfl rfl (by simp [execOp,go_sem,t5,n_0,n_1,n_2,n_3,lt_n]) ⟨_,_,rfl,rfl,⟨hBw,hT.on 0 rfl rfl,kfF f6 rfl B0,kfE f7 rfl rfl rfl,kfX f8 rfl rfl rfl,kV f10 rfl rfl B0,kS f11 rfl rfl rfl B0⟩⟩
   ·refine wpOp_runs (v:=.int .i64 fr) rfl rfl (by simp [execOp,go_sem,t1]) ⟨_,_,rfl,rfl,⟨hBw,hT.on 1 rfl rfl,kfF f6 rfl B0,kfE f7 rfl rfl rfl,kfX f8 rfl rfl rfl,kV f10 rfl rfl B0,kS f11 rfl rfl rfl B0⟩⟩
   ·refine wpOp_runs (v:=.int .i64 tn) rfl rfl (by simp [execOp,go_sem,t2]) ⟨_,_,rfl,rfl,⟨hBw,hT.on 2 rfl rfl,kfF f6 rfl B0,kfE f7 rfl rfl rfl,kfX f8 rfl rfl rfl,kV f10 rfl rfl B0,kS f11 rfl rfl rfl B0⟩⟩
   ·refine wpOp_runs (v:=.int .i64 cl) rfl rfl (by simp [execOp,go_sem,t3]) ⟨_,_,rfl,rfl,⟨hBw,hT.on 3 rfl rfl,kfF f6 rfl B0,kfE f7 rfl rfl rfl,kfX f8 rfl rfl rfl,kV f10 rfl rfl B0,kS f11 rfl rfl rfl B0⟩⟩
   ·have d3:=getD_ft (haf _ rfl ⟨3,.data⟩ (by simp) rfl)
    have e36:=(EI 3 36 rfl (by decide)).trans (hT.get 3 rfl d3)
    have t36:=tev e36
    refine wpOp_of rfl ?_
    refine step_call rfl 21 #[.tmp 36,.const (.int .i64 0),.const (.int .i64 2)] _ rfl #[.int .i64 cl,.int .i64 0,.int .i64 2] (by simp [e36,evc]) Tryz.func21 rfl rfl ?_
    refine (clamp_is kc HKC.out w').mono ?_
    rintro e w'' ⟨rfl,rfl⟩
    have hb:=Below.refl w'.heap.size w'
    exact ⟨_,rfl,_,_,rfl,rfl,⟨hBw.trans (hb.mono hBw.size),hT.on 4 rfl rfl,kfF f6 rfl hb,kfE f7 rfl rfl rfl,kfX f8 rfl rfl rfl,kV f10 rfl rfl hb,kS f11 rfl rfl rfl hb⟩⟩
   ·have d1:=getD_ft (haf _ rfl ⟨1,.data⟩ (by simp) rfl)
    have e34:=(EI 1 34 rfl (by decide)).trans (hT.get 1 rfl d1)
    have t34:=tev e34
    have d2:=getD_ft (haf _ rfl ⟨2,.data⟩ (by simp) rfl)
    have e35:=(EI 2 35 rfl (by decide)).trans (hT.get 2 rfl d2)
    have t35:=tev e35
    have d4:=getD_ft (haf _ rfl ⟨4,.data⟩ (by simp) rfl)
    have e37:=(EI 4 37 rfl (by decide)).trans (hT.get 4 rfl d4)
    have t37:=tev e37
    refine wpOp_runs (v:=.agg #[.int .i64 fr,.int .i64 tn,.int .i64 0,.int .i64 kc,.int .i64 1099511627776]) rfl rfl (by simp [execOp,go_sem,t34,t35,t37]) ⟨_,_,rfl,rfl,⟨hBw,hT.on 5 rfl rfl,kfF f6 rfl B0,kfE f7 rfl rfl rfl,kfX f8 rfl rfl rfl,kV f10 rfl rfl B0,kS f11 rfl rfl rfl B0⟩⟩
   ·have d0:=getD_ft (haf _ rfl ⟨0,.data⟩ (by simp) rfl)
    have e33:=(EI 0 33 rfl (by decide)).trans (hT.get 0 rfl d0)
    have t33:=tev e33
    have d5:=getD_ft (haf _ rfl ⟨5,.data⟩ (by simp) rfl)
    have e38:=(EI 5 38 rfl (by decide)).trans (hT.get 5 rfl d5)
    have t38:=tev e38
    refine wpOp_of rfl ?_
    refine step_call rfl 11 #[.tmp 33,.const (.slice none 0 0),.tmp 38] _ rfl #[.agg #[.slice A1 n1 c1,.slice A n c,.int .i64 clk,.int .i64 ver],.slice none 0 0,.agg #[.int .i64 fr,.int .i64 tn,.int .i64 0,.int .i64 kc,.int .i64 1099511627776]] (by simp [e33,e38,evc]) Tryz.func11 rfl rfl ?_
    refine (buroute_of sortEd_any A1 n1 c1 cs A n c rs clk ver none 0 0 [] fr tn 0 kc 1099511627776 w' HD1.out (by omega) HD.out (by omega) rfl (by omega) (HL1.out _ (HUP.out _ hBw)) (HL.out _ (HUP.out _ hBw)) (Sl.nil0 _ _ _) HRP.out.co HRP.out.rg (by decide +kernel) b2 HB2.out or HOr.out Hr HHr.out tr HTr.out mr HMr.out er HEr.out).mono ?_
    rintro e w'' ⟨Av',cv',rfl,hown,hb⟩
    exact ⟨_,rfl,_,_,rfl,rfl,⟨hBw.trans (hb.mono hBw.size),hT.off rfl,fun _ => by rw [upd_same]; exact ⟨_,rfl,own_down hown hBw.size⟩,fun h => absurd (getD_ft (hcl 7 _ rfl (un_set (i:=6) rfl h) ⟨6,.data⟩ (by simp) rfl)) (by rw [hun]; decide),fun h => absurd (getD_ft (hcl 7 _ rfl (getD_ft (hcl 8 _ rfl (un_set (i:=6) rfl h) ⟨7,.data⟩ (by simp) rfl)) ⟨6,.data⟩ (by simp) rfl)) (by rw [hun]; decide),kVi f10 rfl hb HINJ.out hown,kS f11 rfl rfl rfl hb⟩⟩
   ·have d6:=getD_ft (haf _ rfl ⟨6,.data⟩ (by simp) rfl)
    have e39:=EI 6 39 rfl (by decide)
    have dF:=d6
    obtain ⟨uZ,eZ,oZ⟩:=f6 dF
    have t39:=tev e39
    refine wpOp_runs (v:=x 6) rfl rfl (by simp [execOp,go_sem,t39]) ⟨_,_,rfl,rfl,⟨hBw,hT.off rfl,kfF f6 rfl B0,fun _ => by rw [upd_same,upd_off x _ rfl],kfX f8 rfl rfl rfl,kV f10 rfl rfl B0,kS f11 rfl rfl rfl B0⟩⟩
   ·have d7:=getD_ft (haf _ rfl ⟨7,.data⟩ (by simp) rfl)
    have e32:=(EI 7 32 rfl (by decide)).trans (f7 d7)
    have dF:=(getD_ft (hcl 7 _ rfl d7 ⟨6,.data⟩ (by simp) rfl))
    obtain ⟨uZ,eZ,oZ⟩:=f6 dF
    rw [eZ] at e32
    have t32:=tev e32
    refine wpOp_runs (v:=Value.agg #[uZ,.int .i64 tr]) rfl rfl (by simp [execOp,go_sem,t32]) ⟨_,_,rfl,rfl,⟨hBw,hT.off rfl,kfF f6 rfl B0,kfE f7 rfl rfl rfl,fun _ u' hu => by rw [upd_off x _ rfl] at hu; rw [upd_same,← HINJ.out _ _ (eZ.symm.trans hu)],kV f10 rfl rfl B0,fun h => absurd (getD_ft (hcl 11 _ rfl (un_set (i:=8) rfl h) ⟨8,.data⟩ (by simp) rfl)) (by rw [hun]; decide)⟩⟩
   ·have d7:=getD_ft (haf _ rfl ⟨7,.data⟩ (by simp) rfl)
    have e32:=(EI 7 32 rfl (by decide)).trans (f7 d7)
    have dF:=(getD_ft (hcl 7 _ rfl d7 ⟨6,.data⟩ (by simp) rfl))
    obtain ⟨uZ,eZ,oZ⟩:=f6 dF
    rw [eZ] at e32
    have t32:=tev e32
    refine wpOp_runs (v:=.int .i64 er) rfl rfl (by simp [execOp,go_sem,t32]) ⟨_,_,rfl,rfl,⟨hBw,hT.on 6 rfl rfl,kfF f6 rfl B0,kfE f7 rfl rfl rfl,kfX f8 rfl rfl rfl,kV f10 rfl rfl B0,kS f11 rfl rfl rfl B0⟩⟩
   ·have hb:Below w'.heap.size w' (w'.alloc (.cells #[.slice none 0 0,.int .i64 0] 31)):=(Below.refl _ _).alloc (Nat.le_refl _) _
    refine wpOp_runs (v:=.pointer (some ⟨w'.heap.size,0,none⟩)) (w':=w'.alloc (.cells #[.slice none 0 0,.int .i64 0] 31)) rfl rfl (by simp [execOp,go_sem]) ⟨_,_,rfl,rfl,⟨hBw.trans (hb.mono hBw.size),hT.off rfl,kfF f6 rfl hb,kfE f7 rfl rfl rfl,kfX f8 rfl rfl rfl,kVm f6 hBw.size rfl HINJ.out,fun h => absurd (getD_ft (hcl 11 _ rfl (un_set (i:=10) rfl h) ⟨10,.data⟩ (by simp) rfl)) (by rw [hun]; decide)⟩⟩
   ·have d8:=getD_ft (haf _ rfl ⟨8,.data⟩ (by simp) rfl)
    have e40:=EI 8 40 rfl (by decide)
    have dF:=(getD_ft (hcl 7 _ rfl (getD_ft (hcl 8 _ rfl d8 ⟨7,.data⟩ (by simp) rfl)) ⟨6,.data⟩ (by simp) rfl))
    obtain ⟨uZ,eZ,oZ⟩:=f6 dF
    rw [f8 d8 uZ eZ] at e40
    have t40:=tev e40
    have d10:=getD_ft (haf _ rfl ⟨10,.data⟩ (by simp) rfl)
    have e15:=EI 10 15 rfl (by decide)
    have t15:=tev e15
    obtain ⟨b9,hx9,hl9,hk9,hn9⟩:=f10 d10 hun
    have n9:=hn9 dF uZ eZ
    rw [hx9] at e15
    obtain ⟨A9,c9,hu9⟩:=slice_of_own oZ
    refine wpOp_of rfl ?_
    rw [if_pos (by simp [Region.wanted])]
    refine wp_store_mid 31 (.tmp 15) (.tmp 40) rfl b9 0 #[uZ,.int .i64 tr] e15 e40 ?_ (by kernel_rfl) (by rw [hu9]; simp [Value.oneCell']) ?_
    ·intro j hj
     have hj':j < 2:=hj
     rw [Nat.zero_add]
     refine ⟨?_,hk9.free j⟩
     rw [hk9.cell j]
     obtain rfl | rfl:j = 0 ∨ j = 1:=by omega
     all_goals rfl
    ·exact ⟨_,_,rfl,rfl,⟨set_below b9 hl9 _ _ hBw,hT.off rfl,fun _ => by rw [upd_off x _ rfl]; exact ⟨uZ,eZ,oZ.kept (grown_sets _ _ _) (.inr n9)⟩,kfE f7 rfl rfl rfl,kfX f8 rfl rfl rfl,fun _ h2 => absurd h2 (by rw [set_up]; decide),fun _ => by rw [upd_off x _ rfl,upd_off x _ rfl]; exact ⟨b9,#[uZ,.int .i64 tr],hx9,hl9,f8 d8 uZ eZ,set_whole hk9 rfl⟩⟩⟩
   ·have d9:=getD_ft (haf _ rfl ⟨9,.data⟩ (by simp) rfl)
    have e41:=(EI 9 41 rfl (by decide)).trans (hT.get 6 rfl d9)
    have t41:=tev e41
    refine wpOp_runs (v:=.int .i64 er) rfl rfl (by simp [execOp,go_sem,t41]) ⟨_,_,rfl,rfl,⟨hBw,hT.on 7 rfl rfl,kfF f6 rfl B0,kfE f7 rfl rfl rfl,kfX f8 rfl rfl rfl,kV f10 rfl rfl B0,kS f11 rfl rfl rfl B0⟩⟩
  intro V x w6 hall hF
  obtain ⟨hBw,hT,f6,f7,f8,f10,f11⟩:=hF
  have hx0:=hT.get 0 rfl (hall 0 (by decide))
  have hx1:=hT.get 1 rfl (hall 1 (by decide))
  have hx2:=hT.get 2 rfl (hall 2 (by decide))
  have hx3:=hT.get 3 rfl (hall 3 (by decide))
  have hx4:=hT.get 4 rfl (hall 4 (by decide))
  have hx5:=hT.get 5 rfl (hall 5 (by decide))
  have hx9:=hT.get 6 rfl (hall 9 (by decide))
  have hx12:=hT.get 7 rfl (hall 12 (by decide))
  obtain ⟨uF,eF,oF⟩:=f6 (hall 6 (by decide))
  have hx7:x 7 = (fun u:Value => Value.tuple #[.agg #[u,.int .i64 tr],.int .i64 er]) uF:=(f7 (hall 7 (by decide))).trans eF
  have hx8:=f8 (hall 8 (by decide)) uF eF
  obtain ⟨bV,csV,eV,hVb,eA,hV⟩:=f11 (hall 11 (by decide))
  rw [hx8] at eA
  have eA2:=Value.agg.inj eA
  subst eA2
  clear eA
  clear hall f6 f7 f8 f10 f11 hT
  subst ha0
  simp only [List.map_cons,List.map_nil,putAll,hx0,hx1,hx2,hx3,hx4,hx5,hx9,hx12,hx7,hx8,eF,eV]
  clear hx0 hx1 hx2 hx3 hx4 hx5 hx9 hx12 hx7 hx8 eF eV
  go_simp
  obtain ⟨Ar,cr_,hAr⟩:=slice_of_own oF
  subst hAr
  have xr:Blok w6 bV 31 #[.slice Ar mr cr_,.int .i64 tr]:=hV
  have sr:=Sl.of_own oF
  clear hV oF
  have hP:=FhP.out _ hBw
  have ra:=Fra.out _ hBw
  have hB:=HUP.out _ hBw
  clear hBw
  have hml:mr ≤ 1000000:=by
   have h2:=edgesX_len rs [] kc cs
   rw [HD1.out] at h2
   cases hoq:or with
   | none =>
    have h1:=HHr.out
    rw [hoq] at h1
    have h3:Hr = []:=by rw [← h1]; cases b2 <;> rfl
    have h4:=HMr.out
    rw [h3] at h4
    have h5:0 = mr:=h4
    omega
   | some p =>
    have h1:=bestX_len (HOr.out.trans hoq)
    have h3:=HHr.out
    rw [hoq] at h3
    cases b2 with
    | false =>
     have h4:[] = Hr:=h3
     have h5:=HMr.out
     rw [← h4] at h5
     have h6:0 = mr:=h5
     omega
    | true =>
     have h4:p.1 = Hr:=h3
     rw [h4,HMr.out] at h1
     omega
  cases k1 with
  | false =>
   obtain rfl:el = 1:=HEL.out.symm
   obtain rfl:Ra = []:=HRa.out.symm
   obtain rfl:ma = 0:=HMa.out.symm
   have hkk:=HK12.out
   cases b2 with
   | false =>
    obtain rfl:er = 1:=HEr.out.symm
    clear hkk
    go_wp2_with fail
    go_ret
    exact ⟨rfl,hB⟩
   | true =>
    have hk9:k < 1 ∨ 8 < k:=by
     have h1:inB k 1 8 = false:=by simpa using hkk.symm
     unfold inB at h1
     have h2:=of_decide_eq_false h1
     omega
    clear hkk
    obtain ⟨er1,her1⟩:∃ z,(er == 1) = z:=⟨_,rfl⟩
    have hk10:(k < 1) ∨ (¬ k < 1 ∧ 8 < k):=by omega
    clear hk9
    cases er1
    all_goals
     rcases hk10 with g0 | ⟨g0,g1⟩
     all_goals
      go_wp2_with fail
      go_ret
      exact ⟨rfl,hB⟩
  | true =>
   obtain rfl:el = 0:=HEL.out.symm
   have hkk:=HK12.out
   obtain ⟨hb2t,hk8⟩:=(Bool.and_eq_true _ _).mp hkk.symm
   subst hb2t
   have hk9:1 ≤ k ∧ k ≤ 8:=by unfold inB at hk8; exact of_decide_eq_true hk8
   clear hkk hk8
   have hRt:(allR (edgesX rs [] 0 cs) fr tn clk 0 1099511627776).take k.toNat = Ra:=HRa.out
   have hhd:Ra.head? = or:=by rw [← hRt,← HOr.out,HED.out,← allR_head,List.head?_take,if_neg (by omega)]
   have HMK:Hid (ma ≤ k.toNat):=by
    show ma ≤ k.toNat
    rw [← HMa.out,← hRt,List.length_take]; exact Nat.min_le_left _ _
   have hma8:ma ≤ 8:=by have:=HMK.out; omega
   have HRT:=Lib.hid hRt
   have HHD:=Lib.hid hhd
   clear hRt hhd
   have Gsr:=Lib.hid (fun w' (hb:Below w6.heap.size w6 w') => sr.up hb)
   have GhP:=Lib.hid (fun w' (hb:Below w6.heap.size w6 w') => hP.below hb hP.lt)
   have Gxr:=Lib.hid (fun w' (hb:Below w6.heap.size w6 w') => xr.below hb xr.lt)
   have Gra:=Lib.hid (fun w' (hb:Below w6.heap.size w6 w') => ra.below hb)
   have HBG:=Lib.hid hB
   clear sr hP xr ra hB
   go_wp2_with fail
   go_loopw [17] (fun iv wr => ∃ (i:Nat),iv = .int .i64 (i:Int) ∧ 1 ≤ i ∧ i ≤ ma + 1 ∧ Below w6.heap.size w6 wr) (fun iv _ => ma + 1 - (intOf iv).toNat)
   case atStart => exact ⟨1,rfl,by omega,by omega,Below.refl _ _⟩
   case round =>
    obtain ⟨i,rfl,hi1,hi2,hBr⟩:=hrel
    by_cases him:i < ma
    ·obtain ⟨ga,hga,_,hgl,_⟩:=(Gra.out _ hBr).addr (by omega)
     subst hga
     obtain ⟨j,rfl⟩:∃ j,i = j + 1:=⟨i - 1,by omega⟩
     obtain ⟨Ax,nx,cx,xx0,xx1,hlx,hmx,slx⟩:=(Gra.out _ hBr).cells (k:=j + 1) (by omega)
     obtain ⟨px,hpx⟩:∃ z,Ra.getD (j + 1) ([],0) = z:=⟨_,rfl⟩
     rw [hpx] at xx1 hlx slx
     obtain ⟨Hx,tx⟩:=px
     replace xx1:wr.cell? ⟨ga,(j + 1) * 2 + 1,none⟩ = some (.int .i64 tx):=xx1
     replace slx:Sl wr wr.heap.size 3 Ax nx cx (flatHp Hx):=slx
     have HLx:Hid (Hx.length = nx):=hlx
     have HPx:=Lib.hid hpx
     clear hlx hpx
     obtain ⟨Ay,ny,cy,xy0,xy1,hly,hmy,sly⟩:=(Gra.out _ hBr).cells (k:=j) (by omega)
     obtain ⟨py,hpy⟩:∃ z,Ra.getD (j) ([],0) = z:=⟨_,rfl⟩
     rw [hpy] at xy1 hly sly
     obtain ⟨Hy,ty⟩:=py
     replace xy1:wr.cell? ⟨ga,(j) * 2 + 1,none⟩ = some (.int .i64 ty):=xy1
     replace sly:Sl wr wr.heap.size 3 Ay ny cy (flatHp Hy):=sly
     have HLy:Hid (Hy.length = ny):=hly
     have HPy:=Lib.hid hpy
     clear hly hpy
     have HZ:Hid (cmpR ty Hy tx Hx = -1):=by
      have h:=take_rises (l:=edgesX rs [] 0 cs) (f:=fr) (q:=tn) (now:=clk) (size:=0) (by_:=1099511627776) (k:=k.toNat) (i:=j) (by rw [HRT.out,HMa.out]; omega)
      rw [HRT.out,HPy.out,HPx.out] at h
      exact h
     have HLS:Hid (decide (cmpR ty Hy tx Hx < 0) = true):=decide_eq_true (by have h:=HZ.out; omega)
     have HQ1:=Lib.hid (fun (dd:Nat) (os:Array Obj) => slx.up (below_regrown wr dd os))
     have HQ2:=Lib.hid (fun (dd:Nat) (os:Array Obj) => sly.up (below_regrown wr dd os))
     have hw1:IntKind.i64.wrap (((j + 1:Nat):Int) - 1) = (j:Int):=by rw [IntWalk.i64_in _ (by omega)]; omega
     have hw2:IntKind.i64.wrap ((j:Int) + 1 - 1) = (j:Int):=by rw [IntWalk.i64_in _ (by omega)]; omega
     have hjI:(j:Int) < (ma:Int):=by omega
     have hjN:j < ma:=by omega
     have hiI:(j:Int) + 1 < (ma:Int):=by omega
     clear slx sly
     go_wp2_with fail
     have q_xx0:=fun d os => cell_regrown xx0 d os
     have q_xx1:=fun d os => cell_regrown xx1 d os
     have q_xy0:=fun d os => cell_regrown xy0 d os
     have q_xy1:=fun d os => cell_regrown xy1 d os
     try simp only [List.append]
     first | refine wp_region_text_below ?_ | refine wp_region_quiet_below (by kernel_rfl) (by kernel_rfl) ?_
     repeat (go_big_quiet_step (((go_at_call 25; with_reducible exact Calls.regrown_of (oless_any Ay Ax ny cy nx cx Hy Hx ty tx _ HLy.out HLx.out hmy hmx (HQ2.out _ _) (HQ1.out _ _) true HLS.out)))))
     refine wpQuiet_nil ?_
     intro _ hqw
     obtain ⟨pq,hqw⟩:=hqw
     subst hqw
     clear q_xx0 q_xx1 q_xy0 q_xy1
     have hbel:=below_regrown wr pq.d pq.os
     replace hBr:=hBr.trans (hbel.mono hBr.size)
     clear hbel xx0 xx1 xy0 xy1 hgl
     generalize grow (redrawn wr pq.d) pq.os = wq at *
     go_wp2_with fail
     go_roundw
     case rel => exact ⟨j + 1 + 1,by go_num,by omega,by omega,hBr⟩
     case measure => simp [intOf]; omega
    ·have gii:¬ (i:Int) < (ma:Int):=by omega
     clear him
     obtain ⟨wA,hwA⟩:∃ x,x = wr:=⟨_,rfl⟩
     subst hwA
     have hB:=HBG.out.trans (hBr.mono HBG.out.size)
     rcases or with _ | p
     ·obtain rfl:er = 6:=HEr.out.symm
      have hmn:ma = 0:=by
       rw [← HMa.out,List.head?_eq_none_iff.1 HHD.out]; rfl
      subst hmn
      go_wp2_with fail
      go_ret
      exact ⟨rfl,hB⟩
     ·obtain rfl:er = 0:=HEr.out.symm
      have hh:=HHD.out
      obtain ⟨rr,hrr⟩:∃ rr,Ra = p :: rr:=by
       cases hR:Ra with
       | nil => rw [hR] at hh; cases hh
       | cons a b => rw [hR] at hh; injection hh with hh; exact ⟨b,by rw [hh]⟩
      have hmp:0 < ma:=by rw [← HMa.out,hrr]; simp
      have hp1:p.1 = Hr:=HHr.out
      have hp2:p.2 = tr:=HTr.out
      have hg0:Ra.getD 0 ([],0) = (Hr,tr):=by rw [hrr,← hp1,← hp2]; rfl
      have hra:=Gra.out _ hBr
      obtain ⟨ga,hga,_,hgl,_⟩:=hra.addr hmp
      subst hga
      obtain ⟨Ax,nx,cx,x0,x1,hlx,hmx,slx⟩:=hra.cells (k:=0) hmp
      rw [hg0] at x1 hlx slx
      replace x0:wA.cell? ⟨ga,0,none⟩ = some (.slice Ax nx cx):=by simpa using x0
      replace x1:wA.cell? ⟨ga,1,none⟩ = some (.int .i64 tr):=by simpa using x1
      replace slx:Sl wA wA.heap.size 3 Ax nx cx (flatHp Hr):=slx
      have HLX:Hid (Hr.length = nx):=hlx
      have xr:=Gxr.out _ hBr
      have sr:=Gsr.out _ hBr
      have y0:wA.cell? ⟨bV,0,none⟩ = some (.slice Ar mr cr_):=xr.cell 0
      have y1:wA.cell? ⟨bV,1,none⟩ = some (.int .i64 tr):=xr.cell 1
      have hbl:=xr.lt
      have HQ1:=Lib.hid (fun (dd:Nat) (os:Array Obj) => sr.up (below_regrown wA dd os))
      have HQ2:=Lib.hid (fun (dd:Nat) (os:Array Obj) => slx.up (below_regrown wA dd os))
      have gp1:1 ≤ ma:=hmp
      have gp2:(1:Int) ≤ (ma:Int):=by omega
      have gp3:decide (1 ≤ ma) = true:=decide_eq_true gp1
      have gp4:decide ((1:Int) ≤ (ma:Int)) = true:=decide_eq_true gp2
      have gmk:(ma:Int) ≤ k:=by have:=HMK.out; omega
      have gmk2:decide ((ma:Int) ≤ k) = true:=decide_eq_true gmk
      have hmpI:(0:Int) < (ma:Int):=by omega
      clear hh hrr hp1 hp2 hg0 hra hlx slx sr xr
      go_wp2_with fail
      have q_x0:=fun d os => cell_regrown x0 d os
      have q_x1:=fun d os => cell_regrown x1 d os
      have q_y0:=fun d os => cell_regrown y0 d os
      have q_y1:=fun d os => cell_regrown y1 d os
      try simp only [List.append]
      first | refine wp_region_text_below ?_ | refine wp_region_quiet_below (by kernel_rfl) (by kernel_rfl) ?_
      repeat (go_big_quiet_step (((go_at_call 23; with_reducible exact Calls.regrown_of (psame_any Ax Ar nx cx mr cr_ Hr Hr tr tr _ HLX.out HMr.out hmx hml (HQ2.out _ _) (HQ1.out _ _) true (by simp))))))
      refine wpQuiet_nil ?_
      intro _ hqw
      obtain ⟨pq,hqw⟩:=hqw
      subst hqw
      clear q_x0 q_x1 q_y0 q_y1
      have hbel:=below_regrown wA pq.d pq.os
      replace hB:=HBG.out.trans ((hBr.trans (hbel.mono hBr.size)).mono HBG.out.size)
      clear hbel
      generalize grow (redrawn wA pq.d) pq.os = wq at *
      go_wp2_with fail
      go_ret
      exact ⟨rfl,hB⟩
theorem bundleBare_walk (A1:Option Addr) (n1 c1:Nat) (ns1:List Int) (A:Option Addr) (n c:Nat) (ns:List Int) (clk ver:Int) (fr:Int) (tn:Int) (cl:Int) (k:Int) (hnl1:ns1.length = n1 * 6) (_:∀ m ∈ ns1,(Lit.int .i64 m).wf = true) (hnl:ns.length = n * 5) (_:∀ m ∈ ns,(Lit.int .i64 m).wf = true) (_:(Lit.int .i64 clk).wf = true) (_:(Lit.int .i64 ver).wf = true) (_:(Lit.int .i64 fr).wf = true) (_:(Lit.int .i64 tn).wf = true) (_:(Lit.int .i64 cl).wf = true) (_:(Lit.int .i64 k).wf = true) (w:World) (h1:Sl w w.heap.size 6 A1 n1 c1 (ns1.map (Value.int .i64))) (h:Sl w w.heap.size 5 A n c (ns.map (Value.int .i64))) :
  Calls Tryz.prog 6 #[.agg #[.slice A1 n1 c1,.slice A n c,.int .i64 clk,.int .i64 ver],.int .i64 fr,.int .i64 tn,.int .i64 cl,.int .i64 k] w fun e w' => e = .returned (.bool true) ∧ Below w.heap.size w w':=by
 obtain ⟨cs,hd1,hf1⟩:=rowsCo_of n1 ns1 hnl1
 obtain ⟨rs,hd,hf⟩:=rowsRg_of n ns hnl
 rw [hf1] at h1
 rw [hf] at h
 exact bundleBare_w A1 n1 c1 cs A n c rs clk ver fr tn cl k w hd1 hd h1 h
theorem bundleBare_own:ownKnob Tryz.prog.godebug = none:=by kernel_rfl
theorem bundleBare_laidOut:laidOutB Tryz.prog = true:=by kernel_rfl

set_option maxHeartbeats 1000000 in
set_option maxRecDepth 100000 in
theorem bundleBare_lifted (os:Os) (started:os.Started) (H:Type) (enc:TypeId × Value → H) :
  ReturnsInHanded {} Tryz.checked os 6 .any (Rows.bundleBareSpec.pre6 enc Tryz.prog Tryz.f6 Rows.bundleBareRow.domain false) (Rows.bundleBareSpec.post enc Tryz.prog Tryz.f6 false true false false):=by
 refine returnsInHanded_of_change (C:=Tryz.checked) bundleBare_own started (by kernel_rfl) Tryz.func6
  (ChangeSpec.witness6 (enc:=enc) (C:=Tryz.checked) false ⟨#[],#[.agg #[.slice none 0 0,.slice none 0 0,.int .i64 0,.int .i64 0],.int .i64 0,.int .i64 0,.int .i64 0,.int .i64 0],[]⟩ 8 (by kernel_rfl) (by kernel_rfl) (by kernel_rfl) (by kernel_rfl)) ?_
 intro W base args ds gs before hval0 hW hcnd _
 have hval:∀ (j:Nat) t v,Tryz.f6.params[j]? = some t → args[j]? = some v → Value.okWide Tryz.prog W .any base t v:=hval0
 have hW':=hW
 obtain ⟨p,q,hA0,hV,rfl,hfz,hnd⟩:=hW
 have hA:DataW.TrodAll enc Tryz.prog W 0 (fun _ => true) true Tryz.f6.params.toList args.toList ds p:=hA0
 rw [Tryz.params6] at hA hval
 obtain ⟨v0,vs0,d0,ds0,p0,q0,hargs,rfl,rfl,h0,r0⟩:=trodAll_cons hA
 obtain ⟨v1,vs1,d1,ds1,p1,q1,rfl,rfl,rfl,h1,r1⟩:=trodAll_cons r0
 obtain ⟨v2,vs2,d2,ds2,p2,q2,rfl,rfl,rfl,h2,r2⟩:=trodAll_cons r1
 obtain ⟨v3,vs3,d3,ds3,p3,q3,rfl,rfl,rfl,h3,r3⟩:=trodAll_cons r2
 obtain ⟨v4,vs4,d4,ds4,p4,q4,rfl,rfl,rfl,h4,r4⟩:=trodAll_cons r3
 obtain ⟨rfl,rfl,rfl⟩:=trodAll_nil r4
 obtain rfl:args = #[v0,v1,v2,v3,v4]:=by cases args; simp_all
 obtain ⟨rfl,rfl⟩:=trodVars_none hV
 obtain ⟨A0,n0,c0,ns0,B0,m0,k0,ms0,x0,y0,rfl,hl0,nl0,w0,hm0,ml0,wm0,wx0,wy0⟩:=open_plan 4 (e0:=59) (e1:=100) (K0:=6) (K1:=5) Tryz.underlying25 (by kernel_rfl) (by kernel_rfl) (by kernel_rfl) (by kernel_rfl) (by kernel_rfl) (by kernel_rfl) (by kernel_rfl) (by kernel_rfl) (by omega) (by kernel_rfl) (by omega) (hval 0 25 v0 rfl rfl) h0
 obtain ⟨a1,rfl,rfl,rfl,w1⟩:=open_int Tryz.underlying3 (hval 1 3 v1 rfl rfl) h1
 obtain ⟨a2,rfl,rfl,rfl,w2⟩:=open_int Tryz.underlying3 (hval 2 3 v2 rfl rfl) h2
 obtain ⟨a3,rfl,rfl,rfl,w3⟩:=open_int Tryz.underlying3 (hval 3 3 v3 rfl rfl) h3
 obtain ⟨a4,rfl,rfl,rfl,w4⟩:=open_int Tryz.underlying3 (hval 4 3 v4 rfl rfl) h4
 clear hA0 hval0
 refine (bundleBare_walk A0 n0 c0 ns0 B0 m0 k0 ms0 x0 y0 a1 a2 a3 a4 nl0 w0 ml0 wm0 wx0 wy0 w1 w2 w3 w4 W hl0 hm0).mono fun e W' ⟨he,bel⟩ => ?_
 subst he
 exact ⟨_,rfl,law_post bundleBare_laidOut (by kernel_rfl) rfl Tryz.underlying4 rfl rfl hW' bel⟩

theorem bundleBare_proved:Rows.BundleBareSaid:=
 OpenClaim.holds_of_wide 6 Tryz.f6 rfl rfl rfl rfl rfl rfl rfl ⟨rfl,rfl,rfl,rfl,rfl⟩ rfl rfl rfl rfl rfl (by kernel_rfl) Tryz.func6 (by kernel_rfl)
  (of_decide_eq_true (by kernel_rfl)) (by unfold Func.isWrapper; first | (rw [if_pos (by decide +kernel)]; kernel_rfl) | (rw [if_neg (by decide +kernel)]; exact ⟨rfl,rfl⟩))
  (fun os started H enc _ => bundleBare_lifted os started H enc)
#print axioms bundleBare_proved
end Go.Proofs.YtodcoockhkghdaaGreat
