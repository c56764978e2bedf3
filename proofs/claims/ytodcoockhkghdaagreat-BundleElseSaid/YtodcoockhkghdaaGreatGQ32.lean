/- Several texts of mine in one: Ref13c, Bundle3. No condition. -/
import Derived.Test.YtodcoockhkghdaaGreatGQ31
import Derived.Test.YtodcoockhkghdaaGreatBundle
import Derived.Test.YtodcoockhkghdaaGreatGQ29
namespace Go.Proofs.YtodcoockhkghdaaGreat
open Go.ChangeShapes Go.WideShapes Go.ChangeAt Go.RowKit Go.Sort
set_option linter.unusedSimpArgs false
set_option linter.unusedVariables false
theorem own_downS {w:World} {b b':Nat} {e:TypeId} {s n:Nat} {v:Value} {xs:List Value} (h:w.ownsRow b e s v n xs) (hb:b' ≤ b):w.ownsRow b' e s v n xs:=by
 refine ⟨h.1,?_⟩
 rcases h.2 with hn | ⟨g,cap,cur,h1,h2,rest⟩
 ·exact .inl hn
 ·exact .inr ⟨g,cap,cur,h1,Nat.le_trans hb h2,rest⟩
theorem RO.down {w:World} {b b':Nat} {v:Value} {R:List (List Hp × Int)} (h:RO w b v R) (hb:b' ≤ b):RO w b' v R:=by
 obtain ⟨L,h1,h2,h3⟩:=h
 exact ⟨L,own_downS h1 hb,h2,h3⟩
end Go.Proofs.YtodcoockhkghdaaGreat
namespace Go.Proofs.YtodcoockhkghdaaGreat
open Go.ChangeShapes Go.WideShapes Go.ChangeAt Go.RowKit Go.Sort Go.Maps Hp Kv
set_option linter.unusedSimpArgs false
set_option linter.unusedVariables false
def ROv (base m:Nat) (R:List Rtp) (w:World) (u:Value):Prop:=∃ Av cv,u = .slice Av m cv ∧ RO w base (.slice Av m cv) R
theorem ROv.up {base m:Nat} {R:List Rtp} {w w':World} {u:Value} (h:ROv base m R w u) (hb:Below w.heap.size w w'):ROv base m R w' u:=by
 obtain ⟨Av,cv,e,h⟩:=h
 exact ⟨Av,cv,e,h.below hb⟩
def liX (ok:Bool) (E:List Ed) (fr tn clk k:Int):List Rtp:=if ok then (allR E fr tn clk 0 1099511627776).take k.toNat else []
set_option maxHeartbeats 16000000 in
set_option maxRecDepth 100000 in
theorem bulist_of (HSORT0:SortEdC) (A1:Option Addr) (n1 c1:Nat) (cs:List Co) (A:Option Addr) (n c:Nat) (rs:List Rg) (clk ver:Int) (fr tn k:Int) (w:World) (hd1:cs.length = n1) (hn1:n1 ≤ 500) (hd:rs.length = n) (hn:n ≤ 1000000) (h1:Sl w w.heap.size 6 A1 n1 c1 (flatCo cs)) (h:Sl w w.heap.size 5 A n c (flatRg rs)) (hc:Kc.rightC cs = true) (hr:Kr.rightB rs = true)
  (ok:Bool) (hok:(nodeB fr && nodeB tn && inB k 1 8) = ok) (R:List Rtp) (hR:liX ok (edgesX rs [] 0 cs) fr tn clk k = R) (m:Nat) (hm:R.length = m) :
  Calls Tryz.prog 13 #[.agg #[.slice A1 n1 c1,.slice A n c,.int .i64 clk,.int .i64 ver],.int .i64 fr,.int .i64 tn,.int .i64 k] w fun e w' => ∃ Av cv,e = .returned (.tuple #[.slice Av m cv,.int .i64 (if ok then 0 else 1)]) ∧ RO w' w.heap.size (.slice Av m cv) R ∧ Below w.heap.size w w':=by
 have hP:=Blok.new w 25 #[.slice A1 n1 c1,.slice A n c,.int .i64 clk,.int .i64 ver]
 have hB:Below w.heap.size w (w.alloc (.cells #[.slice A1 n1 c1,.slice A n c,.int .i64 clk,.int .i64 ver] 25)):=by (repeat (first | exact Below.refl _ _ | refine Below.alloc ?_ (by first | omega | (simp; done) | (simp; omega)) _ | refine Below.setCell ?_ (by first | omega | (simp; done) | (simp; omega)) _ | refine Below.drew ?_))
 have HSORT:=Lib.hid HSORT0
 have HD:=Lib.hid hd
 have HD1:=Lib.hid hd1
 have HL:=Lib.hid (fun w' (hb:Below w.heap.size w w') => h.up hb)
 have HL1:=Lib.hid (fun w' (hb:Below w.heap.size w w') => h1.up hb)
 have HC:=Lib.hid hc
 have HR:=Lib.hid hr
 obtain ⟨nf,hnf⟩:∃ z,nodeB fr = z:=⟨_,rfl⟩
 obtain ⟨nt,hnt⟩:∃ z,nodeB tn = z:=⟨_,rfl⟩
 obtain ⟨nk,hnk⟩:∃ z,inB k 1 8 = z:=⟨_,rfl⟩
 rw [hnf,hnt,hnk] at hok
 have HNF:=Lib.hid hnf
 have HNT:=Lib.hid hnt
 have HNK:=Lib.hid hnk
 have HOK:=Lib.hid hok
 have HRR:=Lib.hid hR
 have HM:=Lib.hid hm
 clear HSORT0 hd hd1 h h1 hc hr hnf hnt hnk hok hR hm
 go_enter Tryz.func13,Tryz.ntmps13
 go_upto_region 1 with fail
 generalize w.alloc (.cells #[.slice A1 n1 c1,.slice A n c,.int .i64 clk,.int .i64 ver] 25) = w4 at *
 obtain ⟨pb,hpb⟩:∃ z,w.heap.size = z:=⟨_,rfl⟩
 rw [hpb] at hP
 try rw [hpb]
 clear hpb
 have HB4:=Lib.hid hB
 have HP4:=Lib.hid hP
 clear hB hP

 go_wp2_with fail
 refine (node_is nf HNF.out w4).mono ?_
 rintro e w' ⟨rfl,rfl⟩
 cases nf with
 | false =>
  have h0:ok = false:=HOK.out.symm
  subst h0
  have h1:R = []:=HRR.out.symm
  subst h1
  have h2:m = 0:=HM.out.symm
  subst h2
  go_wp2_with fail
  refine bodyPost_ret (v:=.tuple #[.slice none 0 0,.int .i64 1]) (by simp [results,Tryz.results13,go_sem]) rfl ?_
  exact ⟨none,0,rfl,RO.nil _ _,HB4.out⟩
 | true =>
  go_wp2_with fail
  refine (node_is nt HNT.out w4).mono ?_
  rintro e w' ⟨rfl,rfl⟩
  cases nt with
  | false =>
   have h0:ok = false:=HOK.out.symm
   subst h0
   have h1:R = []:=HRR.out.symm
   subst h1
   have h2:m = 0:=HM.out.symm
   subst h2
   go_wp2_with fail
   refine bodyPost_ret (v:=.tuple #[.slice none 0 0,.int .i64 1]) (by simp [results,Tryz.results13,go_sem]) rfl ?_
   exact ⟨none,0,rfl,RO.nil _ _,HB4.out⟩
  | true =>
   go_wp2_with fail
   refine (in_is nk HNK.out w4).mono ?_
   rintro e w' ⟨rfl,rfl⟩
   cases nk with
   | false =>
    have h0:ok = false:=HOK.out.symm
    subst h0
    have h1:R = []:=HRR.out.symm
    subst h1
    have h2:m = 0:=HM.out.symm
    subst h2
    go_wp2_with fail
    refine bodyPost_ret (v:=.tuple #[.slice none 0 0,.int .i64 1]) (by simp [results,Tryz.results13,go_sem]) rfl ?_
    exact ⟨none,0,rfl,RO.nil _ _,HB4.out⟩
   | true =>
    have h0:ok = true:=HOK.out.symm
    subst h0
    have hk8:1 ≤ k ∧ k ≤ 8:=of_decide_eq_true HNK.out
    obtain ⟨km,rfl⟩:∃ km:Nat,k = (km:Int):=⟨k.toNat,by omega⟩
    obtain ⟨nE,hnE⟩:∃ z,(edgesX rs [] 0 cs).length = z:=⟨_,rfl⟩
    have hnE2:nE ≤ n1:=by rw [← hnE,← HD1.out]; exact edgesX_len _ _ _ _
    have HNE:=Lib.hid hnE
    obtain ⟨Rk,hRk⟩:∃ z,z = R:=⟨_,rfl⟩
    obtain ⟨mk,hmk⟩:∃ z,z = m:=⟨_,rfl⟩
    have HRK:Hid ((allR (edgesX rs [] 0 cs) fr tn clk 0 1099511627776).take (km:Int).toNat = Rk):=HRR.out.trans hRk.symm
    have HMK:Hid (Rk.length = mk):=by show _ = _; rw [hRk,hmk]; exact HM.out
    subst hRk hmk
    have HUP:Hid (∀ w',Below w4.heap.size w4 w' → Below w.heap.size w w'):=fun w' hb => HB4.out.trans (hb.mono HB4.out.size)
    clear hnE
    go_upto_region 3 with fail

    have hinj:∀ a c:Value,(fun u:Value => u) a = (fun u:Value => u) c → a = c:=fun a c h => by simpa using h
    have HINJ:=Lib.hid hinj
    clear hinj
    refine gen_frame ?_
    intro a0 ha0
    try simp only [List.append]
    refine wp_region_frames rfl (by kernel_rfl) (by kernel_rfl) (fun V x w' => Below w4.heap.size w4 w' ∧ TF [(0,.agg #[.slice A1 n1 c1,.slice A n c,.int .i64 clk,.int .i64 ver]),(2,.int .i64 fr),(3,.int .i64 tn),(4,.pointer (some ⟨pb,2,none⟩)),(5,.int .i64 clk),(6,.int .i64 (km:Int)),(9,.int .i64 0)] V x ∧ (V.getD 1 true = true → V.getD 7 true = false → Fin1 (fun u:Value => u) w4.heap.size 86 8 nE (flatEd (edgesX rs [] 0 cs)) w' (x 1)) ∧ (V.getD 7 true = true → (ROv w4.heap.size mk Rk) w' (x 7)) ∧ (V.getD 8 true = true → x 8 = x 7)) ?_ ?_ ?_
    ·intro x
     refine ⟨(Below.refl _ _).drew,TF.none rfl,?_,?_,?_⟩ <;> exact fun h => by simp at h
    ·intro V x b w' hbq hsz hF i hi hun haf hcl
     obtain ⟨hBw,hT,f1,f7,f8⟩:=hF
     have hbe:b = putAll a0 [some 23,some 24,some 25,some 26,some 27,some 28,some 29,some 30,some 8,some 9] x 0:=hbq
     have hz0:a0.tmps.size = 31:=by rw [ha0]; rfl
     have e1:b.eval (.tmp 1) = .int .i64 fr:=by rw [hbe,eval_out _ _ _ (by decide),ha0]; rfl
     have t1:b.tmps[1]?.getD undef = .int .i64 fr:=by simpa [Act.eval] using e1
     have e2:b.eval (.tmp 2) = .int .i64 tn:=by rw [hbe,eval_out _ _ _ (by decide),ha0]; rfl
     have t2:b.tmps[2]?.getD undef = .int .i64 tn:=by simpa [Act.eval] using e2
     have e3:b.eval (.tmp 3) = .int .i64 (km:Int):=by rw [hbe,eval_out _ _ _ (by decide),ha0]; rfl
     have t3:b.tmps[3]?.getD undef = .int .i64 (km:Int):=by simpa [Act.eval] using e3
     have e4:b.eval (.tmp 4) = .pointer (some ⟨pb,0,none⟩):=by rw [hbe,eval_out _ _ _ (by decide),ha0]; rfl
     have t4:b.tmps[4]?.getD undef = .pointer (some ⟨pb,0,none⟩):=by simpa [Act.eval] using e4
     have evc:∀ v,b.eval (.const v) = v:=fun _ => rfl
     have B0:=Below.refl w'.heap.size w'
     have EI:∀ (k e:Nat),([some 23,some 24,some 25,some 26,some 27,some 28,some 29,some 30,some 8,some 9]:List (Option Tmp))[k]? = some (some e) → e < 31 → b.eval (.tmp e) = x k:=fun k e h1 h2 => by rw [hbe,eval_in _ _ _ k (by decide) h1 (by rw [hz0]; exact h2),Nat.zero_add]
     clear hbq
     have hi':i < 10:=hi
     clear hi
     obtain rfl | rfl | rfl | rfl | rfl | rfl | rfl | rfl | rfl | rfl:i = 0 ∨ i = 1 ∨ i = 2 ∨ i = 3 ∨ i = 4 ∨ i = 5 ∨ i = 6 ∨ i = 7 ∨ i = 8 ∨ i = 9:=by omega
     ·have bq:=HP4.out.below hBw HP4.out.lt
      have n_0:w'.cell? ⟨pb,0,none⟩ = some (.slice A1 n1 c1):=bq.cell 0
      have n_1:w'.cell? ⟨pb,1,none⟩ = some (.slice A n c):=bq.cell 1
      have n_2:w'.cell? ⟨pb,2,none⟩ = some (.int .i64 clk):=bq.cell 2
      have n_3:w'.cell? ⟨pb,3,none⟩ = some (.int .i64 ver):=bq.cell 3
      have lt_n:=bq.lt
      refine wpOp_runs (v:=.agg #[.slice A1 n1 c1,.slice A n c,.int .i64 clk,.int .i64 ver]) rfl rfl (by simp [execOp,go_sem,t4,n_0,n_1,n_2,n_3,lt_n]) ⟨_,_,rfl,rfl,⟨hBw,hT.on 0 rfl rfl,kfD f1 rfl B0,kM (P:=(ROv w4.heap.size mk Rk)) f7 rfl (fun _ h => ROv.up h B0),kfE f8 rfl rfl rfl⟩⟩
     ·have d0:=getD_ft (haf _ rfl ⟨0,.data⟩ (by simp) rfl)
      have e23:=(EI 0 23 rfl (by decide)).trans (hT.get 0 rfl d0)
      have t23:=tev e23
      refine wpOp_of rfl ?_
      refine step_call rfl 40 #[.tmp 23] _ rfl #[.agg #[.slice A1 n1 c1,.slice A n c,.int .i64 clk,.int .i64 ver]] (by simp [e23]) Tryz.func40 rfl rfl ?_
      refine (vbareX_of HSORT.out A1 n1 c1 cs A n c rs clk ver w' HD1.out (by omega) HD.out (by omega) (HL1.out _ (HUP.out _ hBw)) (HL.out _ (HUP.out _ hBw)) HC.out HR.out).mono ?_
      rintro e w'' ⟨v,rfl,hown,hb⟩
      rw [HNE.out] at hown
      exact ⟨_,rfl,_,_,rfl,rfl,⟨hBw.trans (hb.mono hBw.size),hT.off rfl,fun _ _ => by rw [upd_same]; exact ⟨_,rfl,own_down hown hBw.size⟩,kM (P:=(ROv w4.heap.size mk Rk)) f7 rfl (fun _ h => ROv.up h hb),kfE f8 rfl rfl rfl⟩⟩
     ·refine wpOp_runs (v:=.int .i64 fr) rfl rfl (by simp [execOp,go_sem,t1]) ⟨_,_,rfl,rfl,⟨hBw,hT.on 1 rfl rfl,kfD f1 rfl B0,kM (P:=(ROv w4.heap.size mk Rk)) f7 rfl (fun _ h => ROv.up h B0),kfE f8 rfl rfl rfl⟩⟩
     ·refine wpOp_runs (v:=.int .i64 tn) rfl rfl (by simp [execOp,go_sem,t2]) ⟨_,_,rfl,rfl,⟨hBw,hT.on 2 rfl rfl,kfD f1 rfl B0,kM (P:=(ROv w4.heap.size mk Rk)) f7 rfl (fun _ h => ROv.up h B0),kfE f8 rfl rfl rfl⟩⟩
     ·refine wpOp_runs (v:=.pointer (some ⟨pb,2,none⟩)) rfl rfl (by simp [execOp,go_sem,t4]) ⟨_,_,rfl,rfl,⟨hBw,hT.on 3 rfl rfl,kfD f1 rfl B0,kM (P:=(ROv w4.heap.size mk Rk)) f7 rfl (fun _ h => ROv.up h B0),kfE f8 rfl rfl rfl⟩⟩
     ·have d4:=getD_ft (haf _ rfl ⟨4,.data⟩ (by simp) rfl)
      have e27:=(EI 4 27 rfl (by decide)).trans (hT.get 3 rfl d4)
      have t27:=tev e27
      have bq:=HP4.out.below hBw HP4.out.lt
      have n_0:w'.cell? ⟨pb,2,none⟩ = some (.int .i64 clk):=bq.cell 2
      refine wpOp_runs (v:=.int .i64 clk) rfl rfl (by simp [execOp,go_sem,t27,n_0]) ⟨_,_,rfl,rfl,⟨hBw,hT.on 4 rfl rfl,kfD f1 rfl B0,kM (P:=(ROv w4.heap.size mk Rk)) f7 rfl (fun _ h => ROv.up h B0),kfE f8 rfl rfl rfl⟩⟩
     ·refine wpOp_runs (v:=.int .i64 (km:Int)) rfl rfl (by simp [execOp,go_sem,t3]) ⟨_,_,rfl,rfl,⟨hBw,hT.on 5 rfl rfl,kfD f1 rfl B0,kM (P:=(ROv w4.heap.size mk Rk)) f7 rfl (fun _ h => ROv.up h B0),kfE f8 rfl rfl rfl⟩⟩
     ·have d1:=getD_ft (haf _ rfl ⟨1,.data⟩ (by simp) rfl)
      have e24:=EI 1 24 rfl (by decide)
      obtain ⟨m1,me1,mo1⟩:=f1 d1 hun
      rw [me1] at e24
      have t24:=tev e24
      have d2:=getD_ft (haf _ rfl ⟨2,.data⟩ (by simp) rfl)
      have e25:=(EI 2 25 rfl (by decide)).trans (hT.get 1 rfl d2)
      have t25:=tev e25
      have d3:=getD_ft (haf _ rfl ⟨3,.data⟩ (by simp) rfl)
      have e26:=(EI 3 26 rfl (by decide)).trans (hT.get 2 rfl d3)
      have t26:=tev e26
      have d5:=getD_ft (haf _ rfl ⟨5,.data⟩ (by simp) rfl)
      have e28:=(EI 5 28 rfl (by decide)).trans (hT.get 4 rfl d5)
      have t28:=tev e28
      have d6:=getD_ft (haf _ rfl ⟨6,.data⟩ (by simp) rfl)
      have e29:=(EI 6 29 rfl (by decide)).trans (hT.get 5 rfl d6)
      have t29:=tev e29
      obtain ⟨A7,c7,hm7⟩:=slice_of_own mo1
      subst hm7
      refine wpOp_of rfl ?_
      refine step_call rfl 39 #[.tmp 24,.tmp 25,.tmp 26,.tmp 28,.const (.int .i64 0),.const (.int .i64 1099511627776),.tmp 29] _ rfl #[.slice A7 nE c7,.int .i64 fr,.int .i64 tn,.int .i64 clk,.int .i64 0,.int .i64 1099511627776,.int .i64 (km:Int)] (by simp [e24,e25,e26,e28,e29,evc]) Tryz.func39 rfl rfl ?_
      refine (broutes_v A7 nE c7 (edgesX rs [] 0 cs) fr tn clk 0 1099511627776 (km:Int) w' HNE.out (by omega) (by omega) (Sl.of_own mo1) Rk HRK.out mk HMK.out).mono ?_
      rintro e w'' ⟨Av,cv,rfl,hro,hb⟩
      exact ⟨_,rfl,_,_,rfl,rfl,⟨hBw.trans (hb.mono hBw.size),hT.off rfl,kfD f1 rfl hb,fun _ => by rw [upd_same]; exact ⟨_,_,rfl,hro.down hBw.size⟩,fun h => absurd (getD_ft (hcl 8 _ rfl (un_set (i:=7) rfl h) ⟨7,.data⟩ (by simp) rfl)) (by rw [hun]; decide)⟩⟩
     ·have d7:=getD_ft (haf _ rfl ⟨7,.data⟩ (by simp) rfl)
      have e30:=EI 7 30 rfl (by decide)
      have t30:=tev e30
      refine wpOp_runs (v:=x 7) rfl rfl (by simp [execOp,go_sem,t30]) ⟨_,_,rfl,rfl,⟨hBw,hT.off rfl,kfD f1 rfl B0,kM (P:=(ROv w4.heap.size mk Rk)) f7 rfl (fun _ h => ROv.up h B0),fun _ => by rw [upd_same,upd_off x _ rfl]⟩⟩
     ·refine wpOp_runs (v:=.int .i64 0) rfl rfl (by simp [execOp,go_sem]) ⟨_,_,rfl,rfl,⟨hBw,hT.on 6 rfl rfl,kfD f1 rfl B0,kM (P:=(ROv w4.heap.size mk Rk)) f7 rfl (fun _ h => ROv.up h B0),kfE f8 rfl rfl rfl⟩⟩
    intro V x w5 hall hF
    obtain ⟨hBw,hT,f1,f7,f8⟩:=hF
    have hx0:=hT.get 0 rfl (hall 0 (by decide))
    have hx2:=hT.get 1 rfl (hall 2 (by decide))
    have hx3:=hT.get 2 rfl (hall 3 (by decide))
    have hx4:=hT.get 3 rfl (hall 4 (by decide))
    have hx5:=hT.get 4 rfl (hall 5 (by decide))
    have hx6:=hT.get 5 rfl (hall 6 (by decide))
    have hx9:=hT.get 6 rfl (hall 9 (by decide))
    have oF:=f7 (hall 7 (by decide))
    have hx8:x 8 = x 7:=f8 (hall 8 (by decide))
    clear hall f1 f7 f8 hT
    subst ha0
    simp only [List.map_cons,List.map_nil,putAll,hx0,hx2,hx3,hx4,hx5,hx6,hx9,hx8]
    clear hx0 hx2 hx3 hx4 hx5 hx6 hx9 hx8
    go_simp
    obtain ⟨Av,cv,e15,hro⟩:=oF
    have HRO:=Lib.hid (hro.down HB4.out.size)
    have HBW:=Lib.hid (HUP.out _ hBw)
    try simp only [e15]
    clear hro hBw e15
    go_wp2_with fail
    refine bodyPost_ret (v:=.tuple #[.slice Av mk cv,.int .i64 0]) (by simp [results,Tryz.results13,go_sem]) rfl ?_
    exact ⟨_,_,rfl,HRO.out,HBW.out⟩
end Go.Proofs.YtodcoockhkghdaaGreat
