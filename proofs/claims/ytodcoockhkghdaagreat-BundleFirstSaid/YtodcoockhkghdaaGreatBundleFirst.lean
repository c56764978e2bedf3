/- The route fits, no one that fits is ahead of it, and there is none just if none fits: BundleFirst returns true. No condition. -/
import Derived.Test.YtodcoockhkghdaaGreatRows
import Derived.Test.YtodcoockhkghdaaGreatSmall20
import Derived.Test.YtodcoockhkghdaaGreatGQ32
import Derived.Test.YtodcoockhkghdaaGreatGQ5
import Derived.Test.YtodcoockhkghdaaGreatGQ33
import Derived.BigQuiet
import Derived.Deep.QuietTactic
import Derived.Test.YtodcoockhkghdaaGreatBundle2
import Derived.Test.YtodcoockhkghdaaGreatGQ34
import Derived.Test.YtodcoockhkghdaaGreatGQ24
import Derived.Test.YtodcoockhkghdaaGreatGQ22
import Derived.Test.YtodcoockhkghdaaGreatGQ4
import Derived.Test.YtodcoockhkghdaaGreatGQ28
import Derived.Test.YtodcoockhkghdaaGreatGQ25
namespace Go.Proofs.YtodcoockhkghdaaGreat
open Go.ChangeShapes Go.WideShapes Go.ChangeAt Go.RowKit Go.Sort Go.Maps Hp Kv
set_option linter.unusedSimpArgs false
set_option linter.unusedVariables false
/-- A route that is one of these IDs fits, or is too late. -/
theorem first_fits {l:List Ed} {ids:List Int} {f q now size de:Int} {s:List Hp × Int} (h:routeE l ids f q now size = some s):buF true (routeE l (s.1.map Hp.id) f q now size) s.1 s.2 de = decide (s.2 ≤ de):=by
 have h1:s.1.map Hp.id = ids:=by
  obtain ⟨es,_,h2,h3,_⟩:=rte_of_route h
  rw [h3,hopsE_ids,h2]
 rw [h1,h]
 unfold buF
 simp
set_option maxHeartbeats 16000000 in
set_option maxRecDepth 100000 in
theorem bundleFirst_w (A1:Option Addr) (n1 c1:Nat) (cs:List Co) (A:Option Addr) (n c:Nat) (rs:List Rg) (clk ver:Int) (A2:Option Addr) (n2 c2:Nat) (bk:List Bk) (fr tn si cl de:Int) (Ai:Option Addr) (ni ci:Nat) (ids:List Int) (w:World) (hd1:cs.length = n1) (hd:rs.length = n) (hd2:bk.length = n2) (hdi:ids.length = ni) (hwi:∀ k,k < ni → (Lit.int .i64 (ids.getD k 0)).wf = true) (h1:Sl w w.heap.size 6 A1 n1 c1 (flatCo cs)) (h:Sl w w.heap.size 5 A n c (flatRg rs)) (h2:Sl w w.heap.size 4 A2 n2 c2 (flatBk bk)) (hli:Sl w w.heap.size 1 Ai ni ci (ids.map (Value.int .i64))) :
  Calls Tryz.prog 4 #[.agg #[.slice A1 n1 c1,.slice A n c,.int .i64 clk,.int .i64 ver],.slice A2 n2 c2,.agg #[.int .i64 fr,.int .i64 tn,.int .i64 si,.int .i64 cl,.int .i64 de],.slice Ai ni ci] w fun e w' => e = .returned (.bool true) ∧ Below w.heap.size w w':=by
 have hP:=(Blok.new w 25 #[.slice A1 n1 c1,.slice A n c,.int .i64 clk,.int .i64 ver]).alloc (.cells #[.int .i64 fr,.int .i64 tn,.int .i64 si,.int .i64 cl,.int .i64 de] 28)
 have hQ:=Blok.new (w.alloc (.cells #[.slice A1 n1 c1,.slice A n c,.int .i64 clk,.int .i64 ver] 25)) 28 #[.int .i64 fr,.int .i64 tn,.int .i64 si,.int .i64 cl,.int .i64 de]
 have hB:Below w.heap.size w ((w.alloc (.cells #[.slice A1 n1 c1,.slice A n c,.int .i64 clk,.int .i64 ver] 25)).alloc (.cells #[.int .i64 fr,.int .i64 tn,.int .i64 si,.int .i64 cl,.int .i64 de] 28)):=by (repeat (first | exact Below.refl _ _ | refine Below.alloc ?_ (by first | omega | (simp; done) | (simp; omega)) _ | refine Below.setCell ?_ (by first | omega | (simp; done) | (simp; omega)) _ | refine Below.drew ?_))
 rw [World.size_alloc] at hQ
 have HD1:=Lib.hid hd1
 have HD:=Lib.hid hd
 have HL1:=Lib.hid (fun w' (hb:Below w.heap.size w w') => h1.up hb)
 have HL:=Lib.hid (fun w' (hb:Below w.heap.size w w') => h.up hb)
 have HD2:=Lib.hid hd2
 have HL2:=Lib.hid (fun w' (hb:Below w.heap.size w w') => h2.up hb)
 have HDi:=Lib.hid hdi
 have HWi:=Lib.hid hwi
 have HLi:=Lib.hid (fun w' (hb:Below w.heap.size w w') => hli.up hb)
 clear hd1 hd h1 h hd2 h2 hdi hwi hli
 go_enter Tryz.func4,Tryz.ntmps4
 go_wp2_with fail
 generalize (w.alloc (.cells #[.slice A1 n1 c1,.slice A n c,.int .i64 clk,.int .i64 ver] 25)).alloc (.cells #[.int .i64 fr,.int .i64 tn,.int .i64 si,.int .i64 cl,.int .i64 de] 28) = w0 at *
 refine (small20_any w0).mono ?_
 rintro e w1 ⟨rfl,hb⟩
 replace hP:=hP.below hb hP.lt
 replace hQ:=hQ.below hb hQ.lt
 replace hB:=hB.trans (hb.mono hB.size)
 clear hb
 obtain ⟨sm,hsm⟩:∃ z,smallP cs rs clk ver bk = z:=⟨_,rfl⟩
 have HSM:=Lib.hid hsm
 clear hsm
 obtain ⟨hP_c0,hP_c1,hP_c2,hP_c3,hP_lt⟩:=hP.cells4
 go_wp2_with fail
 try clear hP_c0 hP_c1 hP_c2 hP_c3 hP_lt
 refine (Small20_any A1 n1 c1 cs A n c rs clk ver A2 n2 c2 bk w1 HD1.out HD.out HD2.out (HL1.out _ hB) (HL.out _ hB) (HL2.out _ hB) sm HSM.out).mono ?_
 rintro e wk1 ⟨rfl,hb⟩
 replace hP:=hP.below hb hP.lt
 replace hQ:=hQ.below hb hQ.lt
 replace hB:=hB.trans (hb.mono hB.size)
 clear hb
 cases sm with
 | false =>
  go_wp2_with fail
  go_ret
  exact ⟨rfl,hB⟩
 | true =>
  obtain ⟨⟨hk1,hk2,hk3⟩,hrp,hrb⟩:=smallP_spec.1 HSM.out
  rw [HD1.out] at hk1
  rw [HD.out] at hk2
  rw [HD2.out] at hk3
  have HRP:=Lib.hid hrp
  have HRB:=Lib.hid hrb
  clear hrp hrb
  clear HSM
  by_cases hG:20 < ni
  ·go_wp2_with fail
   go_ret
   exact ⟨rfl,hB⟩
  have hni:ni ≤ 20:=by omega
  have hG':¬ 20 < ni:=hG
  clear hG
  obtain ⟨bo,hbo⟩:∃ z,bundleB fr tn si cl de = z:=⟨_,rfl⟩
  obtain ⟨kc,hkc⟩:∃ z,clampF cl 0 2 = z:=⟨_,rfl⟩
  obtain ⟨nE,hnE⟩:∃ z,(edgesX rs bk kc cs).length = z:=⟨_,rfl⟩
  have hnE2:nE ≤ n1:=by rw [← hnE,← HD1.out]; exact edgesX_len _ _ _ _
  obtain ⟨ps,hps⟩:∃ z,routeE (edgesX rs bk kc cs) ids fr tn clk si = z:=⟨_,rfl⟩
  obtain ⟨hs,hhs⟩:∃ z,hopsO ps = z:=⟨_,rfl⟩
  obtain ⟨as_,has⟩:∃ z,arrO ps = z:=⟨_,rfl⟩
  obtain ⟨ks,hks⟩:∃ z,ps.isSome = z:=⟨_,rfl⟩
  obtain ⟨ms,hms⟩:∃ z,hs.length = z:=⟨_,rfl⟩
  obtain ⟨o2,ho2⟩:∃ z,routeE (edgesX rs bk cl cs) (hs.map Hp.id) fr tn clk si = z:=⟨_,rfl⟩
  obtain ⟨fb,hfb⟩:∃ z,buF bo o2 hs as_ de = z:=⟨_,rfl⟩
  have hids:hs.map Hp.id = ids ∨ hs = []:=by
   cases ps with
   | none => right; exact hhs.symm
   | some p =>
    left
    obtain ⟨es,_,h2,h3,_⟩:=rte_of_route hps
    rw [← hhs]
    show p.1.map Hp.id = ids
    rw [h3,hopsE_ids,h2]
  have hml:ms ≤ 20:=by
   rw [← hms]
   rcases hids with h | h
   ·have h2:=congrArg List.length h
    rw [List.length_map,HDi.out] at h2
    omega
   ·rw [h]; exact Nat.zero_le _
  have hwf:∀ q,q < ms → (Lit.int .i64 ((hs.map Hp.id).getD q 0)).wf = true:=fun q hq => by
   rcases hids with h | h
   ·rw [h]
    exact HWi.out q (by
     have h2:=congrArg List.length h
     rw [List.length_map,HDi.out] at h2
     omega)
   ·rw [← hms,h] at hq
    exact absurd hq (Nat.not_lt_zero _)
  have HBO:=Lib.hid hbo
  have HKC:=Lib.hid hkc
  have HNE:=Lib.hid hnE
  have HPS:=Lib.hid hps
  have HHS:=Lib.hid hhs
  have HAS:=Lib.hid has
  have HKS:=Lib.hid hks
  have HMS:=Lib.hid hms
  have HO2:=Lib.hid ho2
  have HFB:=Lib.hid hfb
  have HWFS:=Lib.hid hwf
  clear hbo hkc hnE hps hhs has hks hms ho2 hfb hwf
  clear hids
  obtain ⟨or,hor⟩:∃ o,bestX (edgesX rs bk cl cs) fr tn clk si de [] = o:=⟨_,rfl⟩
  obtain ⟨Hr,hHr⟩:∃ z,bestH (buX bo or) = z:=⟨_,rfl⟩
  obtain ⟨tr,htr⟩:∃ z,bestV (buX bo or) = z:=⟨_,rfl⟩
  obtain ⟨mr,hmr⟩:∃ z,Hr.length = z:=⟨_,rfl⟩
  obtain ⟨er,her⟩:∃ z,buE bo or = z:=⟨_,rfl⟩
  have HOr:=Lib.hid hor
  have HHr:=Lib.hid hHr
  have HTr:=Lib.hid htr
  have HMr:=Lib.hid hmr
  have HEr:=Lib.hid her
  clear hor hHr htr hmr her
  obtain ⟨hP_c0,hP_c1,hP_c2,hP_c3,hP_lt⟩:=hP.cells4
  obtain ⟨hQ_c0,hQ_c1,hQ_c2,hQ_c3,hQ_c4,hQ_lt⟩:=hQ.cells5
  go_wp2_with fail
  try clear hP_c0 hP_c1 hP_c2 hP_c3 hP_lt hQ_c0 hQ_c1 hQ_c2 hQ_c3 hQ_c4 hQ_lt
  refine (buroute_of sortEd_any A1 n1 c1 cs A n c rs clk ver A2 n2 c2 bk fr tn si cl de wk1 HD1.out (by omega) HD.out (by omega) HD2.out (by omega) (HL1.out _ hB) (HL.out _ hB) (HL2.out _ hB) HRP.out.co HRP.out.rg HRB.out bo HBO.out or HOr.out Hr HHr.out tr HTr.out mr HMr.out er HEr.out).mono ?_
  rintro e wk2 ⟨Ar,cr_,rfl,wr,hb⟩
  have sr:=Sl.of_own wr
  clear wr 
  replace hP:=hP.below hb hP.lt
  replace hQ:=hQ.below hb hQ.lt
  replace hB:=hB.trans (hb.mono hB.size)
  clear hb
  go_upto_region 6 with fail
  have hb:Below wk2.heap.size wk2 (wk2.alloc (.cells #[.slice Ar mr cr_,.int .i64 tr] 31)):=(Below.refl _ _).alloc (Nat.le_refl _) _
  have xr:=Blok.new wk2 31 #[.slice Ar mr cr_,.int .i64 tr]
  obtain ⟨bxr,hbxr⟩:∃ q,wk2.heap.size = q:=⟨_,rfl⟩
  have hsxr:(wk2.alloc (.cells #[.slice Ar mr cr_,.int .i64 tr] 31)).heap.size = bxr + 1:=by rw [← hbxr]; simp
  replace sr:=sr.up hb
  replace hP:=hP.below hb hP.lt
  replace hQ:=hQ.below hb hQ.lt
  replace hB:=hB.trans (hb.mono hB.size)
  clear hb
  generalize wk2.alloc (.cells #[.slice Ar mr cr_,.int .i64 tr] 31) = wk3 at *
  rw [hbxr] at xr
  try rw [hbxr]
  clear hbxr
  try clear hsxr
  have Fsr:=Lib.hid (fun w' (hb:Below wk3.heap.size wk3 w') => sr.up hb)
  have FhP:=Lib.hid (fun w' (hb:Below wk3.heap.size wk3 w') => hP.below hb hP.lt)
  have H_hP:=Lib.hid hP
  have FhQ:=Lib.hid (fun w' (hb:Below wk3.heap.size wk3 w') => hQ.below hb hQ.lt)
  have H_hQ:=Lib.hid hQ
  have Fxr:=Lib.hid (fun w' (hb:Below wk3.heap.size wk3 w') => xr.below hb xr.lt)
  have H_xr:=Lib.hid xr
  have HBA:=Lib.hid hB
  have HUP:Hid (∀ w',Below wk3.heap.size wk3 w' → Below w.heap.size w w'):=fun w' hb => HBA.out.trans (hb.mono HBA.out.size)
  clear sr hP hQ xr hB
  skip
  have hinj:∀ a c:Value,(fun u:Value => Value.tuple #[.agg #[u,.int .i64 as_],.bool ks]) a = (fun u:Value => Value.tuple #[.agg #[u,.int .i64 as_],.bool ks]) c → a = c:=fun a c h => by simpa using h
  have HINJ:=Lib.hid hinj
  clear hinj
  refine gen_frame ?_
  intro a0 ha0
  try simp only [List.append]
  refine wp_region_frames rfl (by kernel_rfl) (by kernel_rfl) (fun V x w' => Below wk3.heap.size wk3 w' ∧ TF [(0,.agg #[.slice A1 n1 c1,.slice A n c,.int .i64 clk,.int .i64 ver]),(1,.slice A2 n2 c2),(2,.pointer (some ⟨(w.heap.size + 1),3,none⟩)),(3,.int .i64 cl),(4,.int .i64 kc),(6,.slice Ai ni ci),(7,.pointer (some ⟨(w.heap.size + 1),0,none⟩)),(8,.int .i64 fr),(9,.pointer (some ⟨(w.heap.size + 1),1,none⟩)),(10,.int .i64 tn),(11,.pointer (some ⟨w.heap.size,2,none⟩)),(12,.int .i64 clk),(13,.pointer (some ⟨(w.heap.size + 1),2,none⟩)),(14,.int .i64 si),(18,.bool ks),(21,.bool ks)] V x ∧ (V.getD 5 true = true → V.getD 15 true = false → Fin1 (fun u:Value => u) wk3.heap.size 86 8 nE (flatEd (edgesX rs bk kc cs)) w' (x 5)) ∧ (V.getD 15 true = true → Fin1 (fun u:Value => Value.tuple #[.agg #[u,.int .i64 as_],.bool ks]) wk3.heap.size 67 3 ms (flatHp hs) w' (x 15)) ∧ (V.getD 16 true = true → x 16 = x 15) ∧ (V.getD 17 true = true → ∀ u,x 15 = (fun u:Value => Value.tuple #[.agg #[u,.int .i64 as_],.bool ks]) u → x 17 = (fun u:Value => Value.agg #[u,.int .i64 as_]) u) ∧ (V.getD 19 true = true → V.getD 20 true = false → VarP wk3.heap.size 31 #[.slice none 0 0,.int .i64 0] w' (x 19) (fun b => V.getD 15 true = true → Off1 (fun u:Value => Value.tuple #[.agg #[u,.int .i64 as_],.bool ks]) b (x 15))) ∧ (V.getD 20 true = true → StoP wk3.heap.size 31 w' (x 19) (x 17))) ?_ ?_ ?_
  ·intro x
   refine ⟨(Below.refl _ _).drew,TF.none rfl,?_,?_,?_,?_,?_,?_⟩ <;> exact fun h => by simp at h
  ·intro V x b w' hbq hsz hF i hi hun haf hcl
   obtain ⟨hBw,hT,f5,f15,f16,f17,f19,f20⟩:=hF
   have hbe:b = putAll a0 [some 36,some 37,some 38,some 39,some 40,some 41,some 42,some 43,some 44,some 45,some 46,some 47,some 48,some 49,some 50,some 51,some 35,some 52,some 53,some 13,none,some 14] x 0:=hbq
   have hz0:a0.tmps.size = 113:=by rw [ha0]; rfl
   have e1:b.eval (.tmp 1) = .slice A2 n2 c2:=by rw [hbe,eval_out _ _ _ (by decide),ha0]; rfl
   have t1:b.tmps[1]?.getD undef = .slice A2 n2 c2:=by simpa [Act.eval] using e1
   have e3:b.eval (.tmp 3) = .slice Ai ni ci:=by rw [hbe,eval_out _ _ _ (by decide),ha0]; rfl
   have t3:b.tmps[3]?.getD undef = .slice Ai ni ci:=by simpa [Act.eval] using e3
   have e4:b.eval (.tmp 4) = .pointer (some ⟨w.heap.size,0,none⟩):=by rw [hbe,eval_out _ _ _ (by decide),ha0]; rfl
   have t4:b.tmps[4]?.getD undef = .pointer (some ⟨w.heap.size,0,none⟩):=by simpa [Act.eval] using e4
   have e6:b.eval (.tmp 6) = .pointer (some ⟨(w.heap.size + 1),0,none⟩):=by rw [hbe,eval_out _ _ _ (by decide),ha0]; rfl
   have t6:b.tmps[6]?.getD undef = .pointer (some ⟨(w.heap.size + 1),0,none⟩):=by simpa [Act.eval] using e6
   have evc:∀ v,b.eval (.const v) = v:=fun _ => rfl
   have B0:=Below.refl w'.heap.size w'
   have EI:∀ (k e:Nat),([some 36,some 37,some 38,some 39,some 40,some 41,some 42,some 43,some 44,some 45,some 46,some 47,some 48,some 49,some 50,some 51,some 35,some 52,some 53,some 13,none,some 14]:List (Option Tmp))[k]? = some (some e) → e < 113 → b.eval (.tmp e) = x k:=fun k e h1 h2 => by rw [hbe,eval_in _ _ _ k (by decide) h1 (by rw [hz0]; exact h2),Nat.zero_add]
   clear hbq
   have hi':i < 22:=hi
   clear hi
   obtain rfl | rfl | rfl | rfl | rfl | rfl | rfl | rfl | rfl | rfl | rfl | rfl | rfl | rfl | rfl | rfl | rfl | rfl | rfl | rfl | rfl | rfl:i = 0 ∨ i = 1 ∨ i = 2 ∨ i = 3 ∨ i = 4 ∨ i = 5 ∨ i = 6 ∨ i = 7 ∨ i = 8 ∨ i = 9 ∨ i = 10 ∨ i = 11 ∨ i = 12 ∨ i = 13 ∨ i = 14 ∨ i = 15 ∨ i = 16 ∨ i = 17 ∨ i = 18 ∨ i = 19 ∨ i = 20 ∨ i = 21:=by omega
   ·have bq:=H_hP.out.below hBw H_hP.out.lt
    have n_0:w'.cell? ⟨w.heap.size,0,none⟩ = some (.slice A1 n1 c1):=bq.cell 0
    have n_1:w'.cell? ⟨w.heap.size,1,none⟩ = some (.slice A n c):=bq.cell 1
    have n_2:w'.cell? ⟨w.heap.size,2,none⟩ = some (.int .i64 clk):=bq.cell 2
    have n_3:w'.cell? ⟨w.heap.size,3,none⟩ = some (.int .i64 ver):=bq.cell 3
    have lt_n:=bq.lt
    refine wpOp_runs (v:=.agg #[.slice A1 n1 c1,.slice A n c,.int .i64 clk,.int .i64 ver]) rfl rfl (by simp [execOp,go_sem,t4,n_0,n_1,n_2,n_3,lt_n]) ⟨_,_,rfl,rfl,⟨hBw,hT.on 0 rfl rfl,kfD f5 rfl B0,kfF f15 rfl B0,kfE f16 rfl rfl rfl,kfX f17 rfl rfl rfl,kV f19 rfl rfl B0,kS f20 rfl rfl rfl B0⟩⟩
   ·refine wpOp_runs (v:=.slice A2 n2 c2) rfl rfl (by simp [execOp,go_sem,t1]) ⟨_,_,rfl,rfl,⟨hBw,hT.on 1 rfl rfl,kfD f5 rfl B0,kfF f15 rfl B0,kfE f16 rfl rfl rfl,kfX f17 rfl rfl rfl,kV f19 rfl rfl B0,kS f20 rfl rfl rfl B0⟩⟩
   ·refine wpOp_runs (v:=.pointer (some ⟨(w.heap.size + 1),3,none⟩)) rfl rfl (by simp [execOp,go_sem,t6]) ⟨_,_,rfl,rfl,⟨hBw,hT.on 2 rfl rfl,kfD f5 rfl B0,kfF f15 rfl B0,kfE f16 rfl rfl rfl,kfX f17 rfl rfl rfl,kV f19 rfl rfl B0,kS f20 rfl rfl rfl B0⟩⟩
   ·have d2:=getD_ft (haf _ rfl ⟨2,.data⟩ (by simp) rfl)
    have e38:=(EI 2 38 rfl (by decide)).trans (hT.get 2 rfl d2)
    have t38:=tev e38
    have bq:=H_hQ.out.below hBw H_hQ.out.lt
    have n_0:w'.cell? ⟨(w.heap.size + 1),3,none⟩ = some (.int .i64 cl):=bq.cell 3
    refine wpOp_runs (v:=.int .i64 cl) rfl rfl (by simp [execOp,go_sem,t38,n_0]) ⟨_,_,rfl,rfl,⟨hBw,hT.on 3 rfl rfl,kfD f5 rfl B0,kfF f15 rfl B0,kfE f16 rfl rfl rfl,kfX f17 rfl rfl rfl,kV f19 rfl rfl B0,kS f20 rfl rfl rfl B0⟩⟩
   ·have d3:=getD_ft (haf _ rfl ⟨3,.data⟩ (by simp) rfl)
    have e39:=(EI 3 39 rfl (by decide)).trans (hT.get 3 rfl d3)
    have t39:=tev e39
    refine wpOp_of rfl ?_
    refine step_call rfl 21 #[.tmp 39,.const (.int .i64 0),.const (.int .i64 2)] _ rfl #[.int .i64 cl,.int .i64 0,.int .i64 2] (by simp [e39,evc]) Tryz.func21 rfl rfl ?_
    refine (clamp_is kc HKC.out w').mono ?_
    rintro e w'' ⟨rfl,rfl⟩
    have hb:=Below.refl w'.heap.size w'
    exact ⟨_,rfl,_,_,rfl,rfl,⟨hBw.trans (hb.mono hBw.size),hT.on 4 rfl rfl,kfD f5 rfl hb,kfF f15 rfl hb,kfE f16 rfl rfl rfl,kfX f17 rfl rfl rfl,kV f19 rfl rfl hb,kS f20 rfl rfl rfl hb⟩⟩
   ·have d0:=getD_ft (haf _ rfl ⟨0,.data⟩ (by simp) rfl)
    have e36:=(EI 0 36 rfl (by decide)).trans (hT.get 0 rfl d0)
    have t36:=tev e36
    have d1:=getD_ft (haf _ rfl ⟨1,.data⟩ (by simp) rfl)
    have e37:=(EI 1 37 rfl (by decide)).trans (hT.get 1 rfl d1)
    have t37:=tev e37
    have d4:=getD_ft (haf _ rfl ⟨4,.data⟩ (by simp) rfl)
    have e40:=(EI 4 40 rfl (by decide)).trans (hT.get 4 rfl d4)
    have t40:=tev e40
    refine wpOp_of rfl ?_
    refine step_call rfl 20 #[.tmp 36,.tmp 37,.tmp 40] _ rfl #[.agg #[.slice A1 n1 c1,.slice A n c,.int .i64 clk,.int .i64 ver],.slice A2 n2 c2,.int .i64 kc] (by simp [e36,e37,e40]) Tryz.func20 rfl rfl ?_
    refine (vallX_of sortEd_any A1 n1 c1 cs A n c rs clk ver A2 n2 c2 bk kc w' HD1.out (by omega) HD.out (by omega) HD2.out (by omega) (HL1.out _ (HUP.out _ hBw)) (HL.out _ (HUP.out _ hBw)) (HL2.out _ (HUP.out _ hBw)) HRP.out.co HRP.out.rg HRB.out).mono ?_
    rintro e w'' ⟨v,rfl,hown,hb⟩
    rw [HNE.out] at hown
    exact ⟨_,rfl,_,_,rfl,rfl,⟨hBw.trans (hb.mono hBw.size),hT.off rfl,fun _ _ => by rw [upd_same]; exact ⟨_,rfl,own_down hown hBw.size⟩,kfF f15 rfl hb,kfE f16 rfl rfl rfl,kfX f17 rfl rfl rfl,kV f19 rfl rfl hb,kS f20 rfl rfl rfl hb⟩⟩
   ·refine wpOp_runs (v:=.slice Ai ni ci) rfl rfl (by simp [execOp,go_sem,t3]) ⟨_,_,rfl,rfl,⟨hBw,hT.on 5 rfl rfl,kfD f5 rfl B0,kfF f15 rfl B0,kfE f16 rfl rfl rfl,kfX f17 rfl rfl rfl,kV f19 rfl rfl B0,kS f20 rfl rfl rfl B0⟩⟩
   ·refine wpOp_runs (v:=.pointer (some ⟨(w.heap.size + 1),0,none⟩)) rfl rfl (by simp [execOp,go_sem,t6]) ⟨_,_,rfl,rfl,⟨hBw,hT.on 6 rfl rfl,kfD f5 rfl B0,kfF f15 rfl B0,kfE f16 rfl rfl rfl,kfX f17 rfl rfl rfl,kV f19 rfl rfl B0,kS f20 rfl rfl rfl B0⟩⟩
   ·have d7:=getD_ft (haf _ rfl ⟨7,.data⟩ (by simp) rfl)
    have e43:=(EI 7 43 rfl (by decide)).trans (hT.get 6 rfl d7)
    have t43:=tev e43
    have bq:=H_hQ.out.below hBw H_hQ.out.lt
    have n_0:w'.cell? ⟨(w.heap.size + 1),0,none⟩ = some (.int .i64 fr):=bq.cell 0
    refine wpOp_runs (v:=.int .i64 fr) rfl rfl (by simp [execOp,go_sem,t43,n_0]) ⟨_,_,rfl,rfl,⟨hBw,hT.on 7 rfl rfl,kfD f5 rfl B0,kfF f15 rfl B0,kfE f16 rfl rfl rfl,kfX f17 rfl rfl rfl,kV f19 rfl rfl B0,kS f20 rfl rfl rfl B0⟩⟩
   ·refine wpOp_runs (v:=.pointer (some ⟨(w.heap.size + 1),1,none⟩)) rfl rfl (by simp [execOp,go_sem,t6]) ⟨_,_,rfl,rfl,⟨hBw,hT.on 8 rfl rfl,kfD f5 rfl B0,kfF f15 rfl B0,kfE f16 rfl rfl rfl,kfX f17 rfl rfl rfl,kV f19 rfl rfl B0,kS f20 rfl rfl rfl B0⟩⟩
   ·have d9:=getD_ft (haf _ rfl ⟨9,.data⟩ (by simp) rfl)
    have e45:=(EI 9 45 rfl (by decide)).trans (hT.get 8 rfl d9)
    have t45:=tev e45
    have bq:=H_hQ.out.below hBw H_hQ.out.lt
    have n_0:w'.cell? ⟨(w.heap.size + 1),1,none⟩ = some (.int .i64 tn):=bq.cell 1
    refine wpOp_runs (v:=.int .i64 tn) rfl rfl (by simp [execOp,go_sem,t45,n_0]) ⟨_,_,rfl,rfl,⟨hBw,hT.on 9 rfl rfl,kfD f5 rfl B0,kfF f15 rfl B0,kfE f16 rfl rfl rfl,kfX f17 rfl rfl rfl,kV f19 rfl rfl B0,kS f20 rfl rfl rfl B0⟩⟩
   ·refine wpOp_runs (v:=.pointer (some ⟨w.heap.size,2,none⟩)) rfl rfl (by simp [execOp,go_sem,t4]) ⟨_,_,rfl,rfl,⟨hBw,hT.on 10 rfl rfl,kfD f5 rfl B0,kfF f15 rfl B0,kfE f16 rfl rfl rfl,kfX f17 rfl rfl rfl,kV f19 rfl rfl B0,kS f20 rfl rfl rfl B0⟩⟩
   ·have d11:=getD_ft (haf _ rfl ⟨11,.data⟩ (by simp) rfl)
    have e47:=(EI 11 47 rfl (by decide)).trans (hT.get 10 rfl d11)
    have t47:=tev e47
    have bq:=H_hP.out.below hBw H_hP.out.lt
    have n_0:w'.cell? ⟨w.heap.size,2,none⟩ = some (.int .i64 clk):=bq.cell 2
    refine wpOp_runs (v:=.int .i64 clk) rfl rfl (by simp [execOp,go_sem,t47,n_0]) ⟨_,_,rfl,rfl,⟨hBw,hT.on 11 rfl rfl,kfD f5 rfl B0,kfF f15 rfl B0,kfE f16 rfl rfl rfl,kfX f17 rfl rfl rfl,kV f19 rfl rfl B0,kS f20 rfl rfl rfl B0⟩⟩
   ·refine wpOp_runs (v:=.pointer (some ⟨(w.heap.size + 1),2,none⟩)) rfl rfl (by simp [execOp,go_sem,t6]) ⟨_,_,rfl,rfl,⟨hBw,hT.on 12 rfl rfl,kfD f5 rfl B0,kfF f15 rfl B0,kfE f16 rfl rfl rfl,kfX f17 rfl rfl rfl,kV f19 rfl rfl B0,kS f20 rfl rfl rfl B0⟩⟩
   ·have d13:=getD_ft (haf _ rfl ⟨13,.data⟩ (by simp) rfl)
    have e49:=(EI 13 49 rfl (by decide)).trans (hT.get 12 rfl d13)
    have t49:=tev e49
    have bq:=H_hQ.out.below hBw H_hQ.out.lt
    have n_0:w'.cell? ⟨(w.heap.size + 1),2,none⟩ = some (.int .i64 si):=bq.cell 2
    refine wpOp_runs (v:=.int .i64 si) rfl rfl (by simp [execOp,go_sem,t49,n_0]) ⟨_,_,rfl,rfl,⟨hBw,hT.on 13 rfl rfl,kfD f5 rfl B0,kfF f15 rfl B0,kfE f16 rfl rfl rfl,kfX f17 rfl rfl rfl,kV f19 rfl rfl B0,kS f20 rfl rfl rfl B0⟩⟩
   ·have d5:=getD_ft (haf _ rfl ⟨5,.data⟩ (by simp) rfl)
    have e41:=EI 5 41 rfl (by decide)
    obtain ⟨m5,me5,mo5⟩:=f5 d5 hun
    rw [me5] at e41
    have t41:=tev e41
    have d6:=getD_ft (haf _ rfl ⟨6,.data⟩ (by simp) rfl)
    have e42:=(EI 6 42 rfl (by decide)).trans (hT.get 5 rfl d6)
    have t42:=tev e42
    have d8:=getD_ft (haf _ rfl ⟨8,.data⟩ (by simp) rfl)
    have e44:=(EI 8 44 rfl (by decide)).trans (hT.get 7 rfl d8)
    have t44:=tev e44
    have d10:=getD_ft (haf _ rfl ⟨10,.data⟩ (by simp) rfl)
    have e46:=(EI 10 46 rfl (by decide)).trans (hT.get 9 rfl d10)
    have t46:=tev e46
    have d12:=getD_ft (haf _ rfl ⟨12,.data⟩ (by simp) rfl)
    have e48:=(EI 12 48 rfl (by decide)).trans (hT.get 11 rfl d12)
    have t48:=tev e48
    have d14:=getD_ft (haf _ rfl ⟨14,.data⟩ (by simp) rfl)
    have e50:=(EI 14 50 rfl (by decide)).trans (hT.get 13 rfl d14)
    have t50:=tev e50
    obtain ⟨A7,c7,hm7⟩:=slice_of_own mo5
    subst hm7
    refine wpOp_of rfl ?_
    refine step_call rfl 19 #[.tmp 41,.tmp 42,.tmp 44,.tmp 46,.tmp 48,.tmp 50] _ rfl #[.slice A7 nE c7,.slice Ai ni ci,.int .i64 fr,.int .i64 tn,.int .i64 clk,.int .i64 si] (by simp [e41,e42,e44,e46,e48,e50]) Tryz.func19 rfl rfl ?_
    refine (proute_o A7 nE c7 (edgesX rs bk kc cs) Ai ni ci ids fr tn clk si w' HNE.out (by omega) HDi.out (by omega) HWi.out (Sl.of_own mo5) (HLi.out _ (HUP.out _ hBw)) ps HPS.out hs HHS.out as_ HAS.out ks HKS.out).mono ?_
    rintro e w'' ⟨Av,nv,cv,rfl,hnv,hnv2,hown,hb⟩
    obtain rfl:ms = nv:=HMS.out.symm.trans hnv
    exact ⟨_,rfl,_,_,rfl,rfl,⟨hBw.trans (hb.mono hBw.size),hT.off rfl,kfD f5 rfl hb,fun _ => by rw [upd_same]; exact ⟨_,rfl,own_down hown hBw.size⟩,fun h => absurd (getD_ft (hcl 16 _ rfl (un_set (i:=15) rfl h) ⟨15,.data⟩ (by simp) rfl)) (by rw [hun]; decide),fun h => absurd (getD_ft (hcl 16 _ rfl (getD_ft (hcl 17 _ rfl (un_set (i:=15) rfl h) ⟨16,.data⟩ (by simp) rfl)) ⟨15,.data⟩ (by simp) rfl)) (by rw [hun]; decide),kVi f19 rfl hb HINJ.out hown,kS f20 rfl rfl rfl hb⟩⟩
   ·have d15:=getD_ft (haf _ rfl ⟨15,.data⟩ (by simp) rfl)
    have e51:=EI 15 51 rfl (by decide)
    have dF:=d15
    obtain ⟨uZ,eZ,oZ⟩:=f15 dF
    have t51:=tev e51
    refine wpOp_runs (v:=x 15) rfl rfl (by simp [execOp,go_sem,t51]) ⟨_,_,rfl,rfl,⟨hBw,hT.off rfl,kfD f5 rfl B0,kfF f15 rfl B0,fun _ => by rw [upd_same,upd_off x _ rfl],kfX f17 rfl rfl rfl,kV f19 rfl rfl B0,kS f20 rfl rfl rfl B0⟩⟩
   ·have d16:=getD_ft (haf _ rfl ⟨16,.data⟩ (by simp) rfl)
    have e35:=(EI 16 35 rfl (by decide)).trans (f16 d16)
    have dF:=(getD_ft (hcl 16 _ rfl d16 ⟨15,.data⟩ (by simp) rfl))
    obtain ⟨uZ,eZ,oZ⟩:=f15 dF
    rw [eZ] at e35
    have t35:=tev e35
    refine wpOp_runs (v:=Value.agg #[uZ,.int .i64 as_]) rfl rfl (by simp [execOp,go_sem,t35]) ⟨_,_,rfl,rfl,⟨hBw,hT.off rfl,kfD f5 rfl B0,kfF f15 rfl B0,kfE f16 rfl rfl rfl,fun _ u' hu => by rw [upd_off x _ rfl] at hu; rw [upd_same,← HINJ.out _ _ (eZ.symm.trans hu)],kV f19 rfl rfl B0,fun h => absurd (getD_ft (hcl 20 _ rfl (un_set (i:=17) rfl h) ⟨17,.data⟩ (by simp) rfl)) (by rw [hun]; decide)⟩⟩
   ·have d16:=getD_ft (haf _ rfl ⟨16,.data⟩ (by simp) rfl)
    have e35:=(EI 16 35 rfl (by decide)).trans (f16 d16)
    have dF:=(getD_ft (hcl 16 _ rfl d16 ⟨15,.data⟩ (by simp) rfl))
    obtain ⟨uZ,eZ,oZ⟩:=f15 dF
    rw [eZ] at e35
    have t35:=tev e35
    refine wpOp_runs (v:=.bool ks) rfl rfl (by simp [execOp,go_sem,t35]) ⟨_,_,rfl,rfl,⟨hBw,hT.on 14 rfl rfl,kfD f5 rfl B0,kfF f15 rfl B0,kfE f16 rfl rfl rfl,kfX f17 rfl rfl rfl,kV f19 rfl rfl B0,kS f20 rfl rfl rfl B0⟩⟩
   ·have hb:Below w'.heap.size w' (w'.alloc (.cells #[.slice none 0 0,.int .i64 0] 31)):=(Below.refl _ _).alloc (Nat.le_refl _) _
    refine wpOp_runs (v:=.pointer (some ⟨w'.heap.size,0,none⟩)) (w':=w'.alloc (.cells #[.slice none 0 0,.int .i64 0] 31)) rfl rfl (by simp [execOp,go_sem]) ⟨_,_,rfl,rfl,⟨hBw.trans (hb.mono hBw.size),hT.off rfl,kfD f5 rfl hb,kfF f15 rfl hb,kfE f16 rfl rfl rfl,kfX f17 rfl rfl rfl,kVm f15 hBw.size rfl HINJ.out,fun h => absurd (getD_ft (hcl 20 _ rfl (un_set (i:=19) rfl h) ⟨19,.data⟩ (by simp) rfl)) (by rw [hun]; decide)⟩⟩
   ·have d17:=getD_ft (haf _ rfl ⟨17,.data⟩ (by simp) rfl)
    have e52:=EI 17 52 rfl (by decide)
    have dF:=(getD_ft (hcl 16 _ rfl (getD_ft (hcl 17 _ rfl d17 ⟨16,.data⟩ (by simp) rfl)) ⟨15,.data⟩ (by simp) rfl))
    obtain ⟨uZ,eZ,oZ⟩:=f15 dF
    rw [f17 d17 uZ eZ] at e52
    have t52:=tev e52
    have d19:=getD_ft (haf _ rfl ⟨19,.data⟩ (by simp) rfl)
    have e13:=EI 19 13 rfl (by decide)
    have t13:=tev e13
    obtain ⟨b9,hx9,hl9,hk9,hn9⟩:=f19 d19 hun
    have n9:=hn9 dF uZ eZ
    rw [hx9] at e13
    have dd15:=(getD_ft (hcl 16 _ rfl (getD_ft (hcl 17 _ rfl d17 ⟨16,.data⟩ (by simp) rfl)) ⟨15,.data⟩ (by simp) rfl))
    obtain ⟨A9,c9,hu9⟩:=slice_of_own oZ
    refine wpOp_of rfl ?_
    rw [if_pos (by simp [Region.wanted])]
    refine wp_store_mid 31 (.tmp 13) (.tmp 52) rfl b9 0 #[uZ,.int .i64 as_] e13 e52 ?_ (by kernel_rfl) (by rw [hu9]; simp [Value.oneCell']) ?_
    ·intro j hj
     have hj':j < 2:=hj
     rw [Nat.zero_add]
     refine ⟨?_,hk9.free j⟩
     rw [hk9.cell j]
     obtain rfl | rfl:j = 0 ∨ j = 1:=by omega
     all_goals rfl
    ·exact ⟨_,_,rfl,rfl,⟨set_below b9 hl9 _ _ hBw,hT.off rfl,fun _ h2 => absurd (un_setF (ne_of_down h2) h2) (by rw [dd15]; decide),fun _ => by rw [upd_off x _ rfl]; exact ⟨uZ,eZ,oZ.kept (grown_sets _ _ _) (.inr n9)⟩,kfE f16 rfl rfl rfl,kfX f17 rfl rfl rfl,fun _ h2 => absurd h2 (by rw [set_up]; decide),fun _ => by rw [upd_off x _ rfl,upd_off x _ rfl]; exact ⟨b9,#[uZ,.int .i64 as_],hx9,hl9,f17 d17 uZ eZ,set_whole hk9 rfl⟩⟩⟩
   ·have d18:=getD_ft (haf _ rfl ⟨18,.data⟩ (by simp) rfl)
    have e53:=(EI 18 53 rfl (by decide)).trans (hT.get 14 rfl d18)
    have t53:=tev e53
    refine wpOp_runs (v:=.bool ks) rfl rfl (by simp [execOp,go_sem,t53]) ⟨_,_,rfl,rfl,⟨hBw,hT.on 15 rfl rfl,kfD f5 rfl B0,kfF f15 rfl B0,kfE f16 rfl rfl rfl,kfX f17 rfl rfl rfl,kV f19 rfl rfl B0,kS f20 rfl rfl rfl B0⟩⟩
  intro V x w6 hall hF
  obtain ⟨hBw,hT,f5,f15,f16,f17,f19,f20⟩:=hF
  have hx0:=hT.get 0 rfl (hall 0 (by decide))
  have hx1:=hT.get 1 rfl (hall 1 (by decide))
  have hx2:=hT.get 2 rfl (hall 2 (by decide))
  have hx3:=hT.get 3 rfl (hall 3 (by decide))
  have hx4:=hT.get 4 rfl (hall 4 (by decide))
  have hx6:=hT.get 5 rfl (hall 6 (by decide))
  have hx7:=hT.get 6 rfl (hall 7 (by decide))
  have hx8:=hT.get 7 rfl (hall 8 (by decide))
  have hx9:=hT.get 8 rfl (hall 9 (by decide))
  have hx10:=hT.get 9 rfl (hall 10 (by decide))
  have hx11:=hT.get 10 rfl (hall 11 (by decide))
  have hx12:=hT.get 11 rfl (hall 12 (by decide))
  have hx13:=hT.get 12 rfl (hall 13 (by decide))
  have hx14:=hT.get 13 rfl (hall 14 (by decide))
  have hx18:=hT.get 14 rfl (hall 18 (by decide))
  have hx21:=hT.get 15 rfl (hall 21 (by decide))
  obtain ⟨uF,eF,oF⟩:=f15 (hall 15 (by decide))
  have hx16:x 16 = (fun u:Value => Value.tuple #[.agg #[u,.int .i64 as_],.bool ks]) uF:=(f16 (hall 16 (by decide))).trans eF
  have hx17:=f17 (hall 17 (by decide)) uF eF
  obtain ⟨bV,csV,eV,hVb,eA,hV⟩:=f20 (hall 20 (by decide))
  rw [hx17] at eA
  have eA2:=Value.agg.inj eA
  subst eA2
  clear eA
  clear hall f5 f15 f16 f17 f19 f20 hT
  subst ha0
  simp only [List.map_cons,List.map_nil,putAll,hx0,hx1,hx2,hx3,hx4,hx6,hx7,hx8,hx9,hx10,hx11,hx12,hx13,hx14,hx18,hx21,hx16,hx17,eF,eV]
  clear hx0 hx1 hx2 hx3 hx4 hx6 hx7 hx8 hx9 hx10 hx11 hx12 hx13 hx14 hx18 hx21 hx16 hx17 eF eV
  go_simp
  obtain ⟨As,cs_,hAs⟩:=slice_of_own oF
  subst hAs
  have xs:Blok w6 bV 31 #[.slice As ms cs_,.int .i64 as_]:=hV
  have ss:=Sl.of_own oF
  clear hV oF
  have sr:=Fsr.out _ hBw
  have hP:=FhP.out _ hBw
  have hQ:=FhQ.out _ hBw
  have xr:=Fxr.out _ hBw
  have hB:=HUP.out _ hBw
  clear hBw
  obtain ⟨hP_c0,hP_c1,hP_c2,hP_c3,hP_lt⟩:=hP.cells4
  obtain ⟨hQ_c0,hQ_c1,hQ_c2,hQ_c3,hQ_c4,hQ_lt⟩:=hQ.cells5
  obtain ⟨xs_c0,xs_c1,xs_lt⟩:=xs.cells2
  go_wp2_with fail
  try clear hP_c0 hP_c1 hP_c2 hP_c3 hP_lt hQ_c0 hQ_c1 hQ_c2 hQ_c3 hQ_c4 hQ_lt xs_c0 xs_c1 xs_lt
  refine (bufits_of sortEd_any A1 n1 c1 cs A n c rs clk ver A2 n2 c2 bk fr tn si cl de As ms cs_ hs as_ w6 HD1.out (by omega) HD.out (by omega) HD2.out (by omega) HMS.out (by omega) HWFS.out (HL1.out _ hB) (HL.out _ hB) (HL2.out _ hB) ss HRP.out.co HRP.out.rg HRB.out bo HBO.out o2 HO2.out fb HFB.out).mono ?_
  rintro e wk4 ⟨rfl,hb⟩
  replace sr:=sr.up hb
  replace ss:=ss.up hb
  replace hP:=hP.below hb hP.lt
  replace hQ:=hQ.below hb hQ.lt
  replace xr:=xr.below hb xr.lt
  replace xs:=xs.below hb xs.lt
  replace hB:=hB.trans (hb.mono hB.size)
  clear hb
  cases bo with
  | false =>
   obtain rfl:er = 1:=HEr.out.symm
   obtain rfl:fb = false:=HFB.out.symm
   obtain ⟨hQ_c0,hQ_c1,hQ_c2,hQ_c3,hQ_c4,hQ_lt⟩:=hQ.cells5
   go_wp2_with fail
   try clear hQ_c0 hQ_c1 hQ_c2 hQ_c3 hQ_c4 hQ_lt
   refine (bundle_is false HBO.out wk4).mono ?_
   rintro e wk5 ⟨rfl,hb⟩
   replace sr:=sr.up hb
   replace ss:=ss.up hb
   replace hP:=hP.below hb hP.lt
   replace hQ:=hQ.below hb hQ.lt
   replace xr:=xr.below hb xr.lt
   replace xs:=xs.below hb xs.lt
   replace hB:=hB.trans (hb.mono hB.size)
   clear hb
   go_wp2_with fail
   go_ret
   exact ⟨rfl,hB⟩
  | true =>
   obtain ⟨_,_,_,hcl,_,_⟩:=bundleB_spec.1 HBO.out
   have hkl:kc = cl:=by rw [← HKC.out]; unfold clampF; rw [if_neg (by omega),if_neg (by omega)]
   clear hcl
   obtain rfl:cl = kc:=hkl.symm
   clear hkl
   have hfit:∀ s,ps = some s → fb = decide (as_ ≤ de):=fun s hs0 => by
    have h1:=HPS.out
    rw [hs0] at h1
    have h2:=first_fits (de:=de) h1
    have h3:s.1 = hs:=by rw [← HHS.out,hs0]; rfl
    have h4:s.2 = as_:=by rw [← HAS.out,hs0]; rfl
    rw [h3,h4,HO2.out] at h2
    exact HFB.out.symm.trans h2
   have HFIT:=Lib.hid hfit
   clear hfit
   rcases or with _ | p
   ·obtain rfl:er = 6:=HEr.out.symm
    obtain rfl:tr = 0:=HTr.out.symm
    obtain rfl:Hr = []:=HHr.out.symm
    obtain rfl:mr = 0:=HMr.out.symm
    obtain ⟨xr_c0,xr_c1,xr_lt⟩:=xr.cells2
    go_wp2_with fail
    try clear xr_c0 xr_c1 xr_lt
    refine (psame_any Ar none 0 cr_ 0 0 [] [] 0 0 wk4 rfl rfl (by omega) (by omega) sr (Sl.nil0 _ _ _) true (by decide)).mono ?_
    rintro e wk5 ⟨rfl,hb⟩
    replace sr:=sr.up hb
    replace ss:=ss.up hb
    replace hP:=hP.below hb hP.lt
    replace hQ:=hQ.below hb hQ.lt
    replace xr:=xr.below hb xr.lt
    replace xs:=xs.below hb xs.lt
    replace hB:=hB.trans (hb.mono hB.size)
    clear hb
    cases ks with
    | false =>
     go_wp2_with fail
     go_ret
     exact ⟨rfl,hB⟩
    | true =>
     obtain ⟨s,hs0⟩:∃ s,ps = some s:=Option.isSome_iff_exists.1 HKS.out
     have hlt:¬ as_ ≤ de:=by
      have h1:=HPS.out
      rw [hs0] at h1
      have h2:=first_noneB HOr.out h1
      have h4:s.2 = as_:=by rw [← HAS.out,hs0]; rfl
      omega
     obtain rfl:fb = false:=(HFIT.out s hs0).trans (decide_eq_false hlt)
     clear hs0 hlt
     go_wp2_with fail
     go_ret
     exact ⟨rfl,hB⟩
   ·obtain rfl:er = 0:=HEr.out.symm
    have hp1:p.1 = Hr:=HHr.out
    have hp2:p.2 = tr:=HTr.out
    have hrt:=(first_routeB HOr.out)
    rw [hp1,hp2] at hrt
    have hmr:mr ≤ 20:=by
     have h1:=bestX_len HOr.out
     have h2:=edgesX_len rs bk cl cs
     rw [hp1,HMr.out] at h1
     rw [HD1.out] at h2
     omega
    have hwr:∀ q,q < mr → (Lit.int .i64 ((Hr.map Hp.id).getD q 0)).wf = true:=wf_getD (by rw [List.length_map]; exact HMr.out) (by rw [← hp1]; exact bestX_wf HOr.out)
    have hbr:buF true (some p) Hr tr de = true:=by
     show (true && ((decide (p.2 = tr) && decide (p.1 = Hr)) && decide (tr ≤ de))) = true
     rw [hp1,hp2]
     simp [hrt.2]
    have hrt1:=hrt.1
    have HRT:=Lib.hid hrt1
    have HWR:=Lib.hid hwr
    have HBR:=Lib.hid hbr
    clear hrt1 hwr hbr
    clear hrt
    obtain ⟨hP_c0,hP_c1,hP_c2,hP_c3,hP_lt⟩:=hP.cells4
    obtain ⟨hQ_c0,hQ_c1,hQ_c2,hQ_c3,hQ_c4,hQ_lt⟩:=hQ.cells5
    obtain ⟨xr_c0,xr_c1,xr_lt⟩:=xr.cells2
    go_wp2_with fail
    try clear hP_c0 hP_c1 hP_c2 hP_c3 hP_lt hQ_c0 hQ_c1 hQ_c2 hQ_c3 hQ_c4 hQ_lt xr_c0 xr_c1 xr_lt
    refine (bufits_of sortEd_any A1 n1 c1 cs A n c rs clk ver A2 n2 c2 bk fr tn si cl de Ar mr cr_ Hr tr wk4 HD1.out (by omega) HD.out (by omega) HD2.out (by omega) HMr.out (by omega) HWR.out (HL1.out _ hB) (HL.out _ hB) (HL2.out _ hB) sr HRP.out.co HRP.out.rg HRB.out true HBO.out (some p) HRT.out true HBR.out).mono ?_
    rintro e wk5 ⟨rfl,hb⟩
    replace sr:=sr.up hb
    replace ss:=ss.up hb
    replace hP:=hP.below hb hP.lt
    replace hQ:=hQ.below hb hQ.lt
    replace xr:=xr.below hb xr.lt
    replace xs:=xs.below hb xs.lt
    replace hB:=hB.trans (hb.mono hB.size)
    clear hb
    cases ks with
    | false =>
     go_wp2_with fail
     go_ret
     exact ⟨rfl,hB⟩
    | true =>
     obtain ⟨s,hs0⟩:∃ s,ps = some s:=Option.isSome_iff_exists.1 HKS.out
     have hfb:=HFIT.out s hs0
     cases fb with
     | false =>
      clear hfb hs0
      go_wp2_with fail
      go_ret
      exact ⟨rfl,hB⟩
     | true =>
      have hle:as_ ≤ de:=by simpa using hfb.symm
      have h4:s.2 = as_:=by rw [← HAS.out,hs0]; rfl
      have h3:s.1 = hs:=by rw [← HHS.out,hs0]; rfl
      have hz:=first_cmpB HOr.out (HPS.out.trans hs0) (by omega)
      rw [h3,h4,hp1,hp2] at hz
      obtain ⟨z,hzz⟩:∃ z,cmpR tr Hr as_ hs = z:=⟨_,rfl⟩
      rw [hzz] at hz
      have HZZ:=Lib.hid hzz
      clear hzz
      clear hfb hs0 h3 h4 hle hp1 hp2
      obtain ⟨xr_c0,xr_c1,xr_lt⟩:=xr.cells2
      obtain ⟨xs_c0,xs_c1,xs_lt⟩:=xs.cells2
      go_wp2_with fail
      try clear xr_c0 xr_c1 xr_lt xs_c0 xs_c1 xs_lt
      refine (ocmp_any Ar As mr cr_ ms cs_ Hr hs tr as_ wk5 HMr.out HMS.out (by omega) (by omega) sr ss z HZZ.out).mono ?_
      rintro e wk6 ⟨rfl,hb⟩
      replace sr:=sr.up hb
      replace ss:=ss.up hb
      replace hP:=hP.below hb hP.lt
      replace hQ:=hQ.below hb hQ.lt
      replace xr:=xr.below hb xr.lt
      replace xs:=xs.below hb xs.lt
      replace hB:=hB.trans (hb.mono hB.size)
      clear hb
      go_wp2_with fail
      go_ret
      exact ⟨rfl,hB⟩
theorem bundleFirst_walk (A1:Option Addr) (n1 c1:Nat) (ns1:List Int) (A:Option Addr) (n c:Nat) (ns:List Int) (clk ver:Int) (A2:Option Addr) (n2 c2:Nat) (ns2:List Int) (fr tn si cl de:Int) (Ai:Option Addr) (ni ci:Nat) (nsi:List Int) (hnl1:ns1.length = n1 * 6) (_:∀ m ∈ ns1,(Lit.int .i64 m).wf = true) (hnl:ns.length = n * 5) (_:∀ m ∈ ns,(Lit.int .i64 m).wf = true) (_:(Lit.int .i64 clk).wf = true) (_:(Lit.int .i64 ver).wf = true) (hnl2:ns2.length = n2 * 4) (_:∀ m ∈ ns2,(Lit.int .i64 m).wf = true) (_:∀ m ∈ [fr,tn,si,cl,de],(Lit.int .i64 m).wf = true) (hnli:nsi.length = ni * 1) (hwi:∀ m ∈ nsi,(Lit.int .i64 m).wf = true) (w:World) (h1:Sl w w.heap.size 6 A1 n1 c1 (ns1.map (Value.int .i64))) (h:Sl w w.heap.size 5 A n c (ns.map (Value.int .i64))) (h2:Sl w w.heap.size 4 A2 n2 c2 (ns2.map (Value.int .i64))) (hli:Sl w w.heap.size 1 Ai ni ci (nsi.map (Value.int .i64))) :
  Calls Tryz.prog 4 #[.agg #[.slice A1 n1 c1,.slice A n c,.int .i64 clk,.int .i64 ver],.slice A2 n2 c2,.agg #[.int .i64 fr,.int .i64 tn,.int .i64 si,.int .i64 cl,.int .i64 de],.slice Ai ni ci] w fun e w' => e = .returned (.bool true) ∧ Below w.heap.size w w':=by
 obtain ⟨cs,hd1,hf1⟩:=rowsCo_of n1 ns1 hnl1
 obtain ⟨rs,hd,hf⟩:=rowsRg_of n ns hnl
 rw [hf1] at h1
 rw [hf] at h
 obtain ⟨bk,hd2,hf2⟩:=rowsBk_of n2 ns2 hnl2
 rw [hf2] at h2
 have hii:nsi.length = ni:=by omega
 exact bundleFirst_w A1 n1 c1 cs A n c rs clk ver A2 n2 c2 bk fr tn si cl de Ai ni ci nsi w hd1 hd hd2 hii (wf_getD hii hwi) h1 h h2 hli
theorem bundleFirst_own:ownKnob Tryz.prog.godebug = none:=by kernel_rfl
theorem bundleFirst_laidOut:laidOutB Tryz.prog = true:=by kernel_rfl

set_option maxHeartbeats 1000000 in
set_option maxRecDepth 100000 in
theorem bundleFirst_lifted (os:Os) (started:os.Started) (H:Type) (enc:TypeId × Value → H) :
  ReturnsInHanded {} Tryz.checked os 4 .any (Rows.bundleFirstSpec.pre6 enc Tryz.prog Tryz.f4 Rows.bundleFirstRow.domain false) (Rows.bundleFirstSpec.post enc Tryz.prog Tryz.f4 false true false false):=by
 refine returnsInHanded_of_change (C:=Tryz.checked) bundleFirst_own started (by kernel_rfl) Tryz.func4
  (ChangeSpec.witness6 (enc:=enc) (C:=Tryz.checked) false ⟨#[],#[.agg #[.slice none 0 0,.slice none 0 0,.int .i64 0,.int .i64 0],.slice none 0 0,.agg #[.int .i64 0,.int .i64 0,.int .i64 0,.int .i64 0,.int .i64 0],.slice none 0 0],[]⟩ 8 (by kernel_rfl) (by kernel_rfl) (by kernel_rfl) (by kernel_rfl)) ?_
 intro W base args ds gs before hval0 hW hcnd _
 have hval:∀ (j:Nat) t v,Tryz.f4.params[j]? = some t → args[j]? = some v → Value.okWide Tryz.prog W .any base t v:=hval0
 have hW':=hW
 obtain ⟨p,q,hA0,hV,rfl,hfz,hnd⟩:=hW
 have hA:DataW.TrodAll enc Tryz.prog W 0 (fun _ => true) true Tryz.f4.params.toList args.toList ds p:=hA0
 rw [Tryz.params4] at hA hval
 obtain ⟨v0,vs0,d0,ds0,p0,q0,hargs,rfl,rfl,h0,r0⟩:=trodAll_cons hA
 obtain ⟨v1,vs1,d1,ds1,p1,q1,rfl,rfl,rfl,h1,r1⟩:=trodAll_cons r0
 obtain ⟨v2,vs2,d2,ds2,p2,q2,rfl,rfl,rfl,h2,r2⟩:=trodAll_cons r1
 obtain ⟨v3,vs3,d3,ds3,p3,q3,rfl,rfl,rfl,h3,r3⟩:=trodAll_cons r2
 obtain ⟨rfl,rfl,rfl⟩:=trodAll_nil r3
 obtain rfl:args = #[v0,v1,v2,v3]:=by cases args; simp_all
 obtain ⟨rfl,rfl⟩:=trodVars_none hV
 obtain ⟨A0,n0,c0,ns0,B0,m0,k0,ms0,x0,y0,rfl,hl0,nl0,w0,hm0,ml0,wm0,wx0,wy0⟩:=open_plan 4 (e0:=59) (e1:=100) (K0:=6) (K1:=5) Tryz.underlying25 (by kernel_rfl) (by kernel_rfl) (by kernel_rfl) (by kernel_rfl) (by kernel_rfl) (by kernel_rfl) (by kernel_rfl) (by kernel_rfl) (by omega) (by kernel_rfl) (by omega) (hval 0 25 v0 rfl rfl) h0
 obtain ⟨A1,n1,c1,ns1,rfl,hl1,nl1,w1⟩:=open_rowsS 4 (K:=4) Tryz.underlying26 (by kernel_rfl) (by kernel_rfl) (by omega) (hval 1 26 v1 rfl rfl) h1
 obtain ⟨n2,e2,l2,w2⟩:=open_flat 4 Tryz.underlying28 (by kernel_rfl) (hval 2 28 v2 rfl rfl) h2
 obtain ⟨a2_0,a2_1,a2_2,a2_3,a2_4,rfl⟩:∃ a2_0 a2_1 a2_2 a2_3 a2_4:Int,n2 = [a2_0,a2_1,a2_2,a2_3,a2_4]:=by
  rw [show Tryz.prog.cellsOf 28 = 5 by kernel_rfl] at l2
  match n2,l2 with
  | [a2_0,a2_1,a2_2,a2_3,a2_4],_ => exact ⟨_,_,_,_,_,rfl⟩
 obtain rfl:v2 = .agg #[.int .i64 a2_0,.int .i64 a2_1,.int .i64 a2_2,.int .i64 a2_3,.int .i64 a2_4]:=e2
 obtain ⟨A3,n3,c3,ns3,rfl,hl3,nl3,w3⟩:=open_rowsS 4 (K:=1) Tryz.underlying44 (by kernel_rfl) (by kernel_rfl) (by omega) (hval 3 44 v3 rfl rfl) h3
 clear hA0 hval0
 refine (bundleFirst_walk A0 n0 c0 ns0 B0 m0 k0 ms0 x0 y0 A1 n1 c1 ns1 a2_0 a2_1 a2_2 a2_3 a2_4 A3 n3 c3 ns3 nl0 w0 ml0 wm0 wx0 wy0 nl1 w1 w2 nl3 w3 W hl0 hm0 hl1 hl3).mono fun e W' ⟨he,bel⟩ => ?_
 subst he
 exact ⟨_,rfl,law_post bundleFirst_laidOut (by kernel_rfl) rfl Tryz.underlying4 rfl rfl hW' bel⟩

theorem bundleFirst_proved:Rows.BundleFirstSaid:=
 OpenClaim.holds_of_wide 4 Tryz.f4 rfl rfl rfl rfl rfl rfl rfl ⟨rfl,rfl,rfl,rfl,rfl⟩ rfl rfl rfl rfl rfl (by kernel_rfl) Tryz.func4 (by kernel_rfl)
  (of_decide_eq_true (by kernel_rfl)) (by unfold Func.isWrapper; first | (rw [if_pos (by decide +kernel)]; kernel_rfl) | (rw [if_neg (by decide +kernel)]; exact ⟨rfl,rfl⟩))
  (fun os started H enc _ => bundleFirst_lifted os started H enc)
#print axioms bundleFirst_proved
end Go.Proofs.YtodcoockhkghdaaGreat
