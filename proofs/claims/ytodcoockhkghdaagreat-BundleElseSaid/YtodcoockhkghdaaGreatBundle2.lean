/- bundle.Fits: does a route fit a bundle? It makes new memory alone. A right plan, a right ledger, up to a thousand contacts and hops. -/
import Derived.Test.YtodcoockhkghdaaGreatBundle
import Derived.BigQuiet
import Derived.Deep.QuietTactic
namespace Go.Proofs.YtodcoockhkghdaaGreat
open Go.ChangeShapes Go.WideShapes Go.ChangeAt Go.RowKit Go.Sort Go.Maps Hp Kv
set_option linter.unusedSimpArgs false
set_option linter.unusedVariables false
/-- Does the route fit? -/
def buF (ok:Bool) (o:Option (List Hp × Int)) (d:List Hp) (ar de:Int):Bool:=ok && (match o with | none => false | some p => (decide (p.2 = ar) && decide (p.1 = d)) && decide (ar ≤ de))
set_option maxHeartbeats 16000000 in
set_option maxRecDepth 100000 in
theorem bufits_of (HSORT0:SortEdC) (A1:Option Addr) (n1 c1:Nat) (cs:List Co) (A:Option Addr) (n c:Nat) (rs:List Rg) (clk ver:Int) (A2:Option Addr) (n2 c2:Nat) (bk:List Bk) (fr tn si cl de:Int) (A3:Option Addr) (n3 c3:Nat) (d:List Hp) (ar:Int) (w:World) (hd1:cs.length = n1) (hn1:n1 ≤ 1000) (hd:rs.length = n) (hn:n ≤ 1000000) (hd2:bk.length = n2) (hn2:n2 ≤ 1000000) (hd3:d.length = n3) (hn3:n3 ≤ 1000) (hw3:∀ q,q < n3 → (Lit.int .i64 ((d.map Hp.id).getD q 0)).wf = true) (h1:Sl w w.heap.size 6 A1 n1 c1 (flatCo cs)) (h:Sl w w.heap.size 5 A n c (flatRg rs)) (h2:Sl w w.heap.size 4 A2 n2 c2 (flatBk bk)) (h3:Sl w w.heap.size 3 A3 n3 c3 (flatHp d)) (hc:Kc.rightC cs = true) (hr:Kr.rightB rs = true) (hr2:Kb.rightB bk = true)
  (ok:Bool) (hok:bundleB fr tn si cl de = ok) (o2:Option (List Hp × Int)) (ho2:routeE (edgesX rs bk cl cs) (d.map Hp.id) fr tn clk si = o2) (b:Bool) (hb:buF ok o2 d ar de = b) :
  Calls Tryz.prog 17 #[.agg #[.slice A1 n1 c1,.slice A n c,.int .i64 clk,.int .i64 ver],.slice A2 n2 c2,.agg #[.int .i64 fr,.int .i64 tn,.int .i64 si,.int .i64 cl,.int .i64 de],.agg #[.slice A3 n3 c3,.int .i64 ar]] w fun e w' => e = .returned (.bool b) ∧ Below w.heap.size w w':=by
 have hP:=((Blok.new w 25 #[.slice A1 n1 c1,.slice A n c,.int .i64 clk,.int .i64 ver]).alloc (.cells #[.int .i64 fr,.int .i64 tn,.int .i64 si,.int .i64 cl,.int .i64 de] 28)).alloc (.cells #[.slice A3 n3 c3,.int .i64 ar] 31)
 have hQ:=(Blok.new (w.alloc (.cells #[.slice A1 n1 c1,.slice A n c,.int .i64 clk,.int .i64 ver] 25)) 28 #[.int .i64 fr,.int .i64 tn,.int .i64 si,.int .i64 cl,.int .i64 de]).alloc (.cells #[.slice A3 n3 c3,.int .i64 ar] 31)
 have hX:=Blok.new ((w.alloc (.cells #[.slice A1 n1 c1,.slice A n c,.int .i64 clk,.int .i64 ver] 25)).alloc (.cells #[.int .i64 fr,.int .i64 tn,.int .i64 si,.int .i64 cl,.int .i64 de] 28)) 31 #[.slice A3 n3 c3,.int .i64 ar]
 have hB:Below w.heap.size w (((w.alloc (.cells #[.slice A1 n1 c1,.slice A n c,.int .i64 clk,.int .i64 ver] 25)).alloc (.cells #[.int .i64 fr,.int .i64 tn,.int .i64 si,.int .i64 cl,.int .i64 de] 28)).alloc (.cells #[.slice A3 n3 c3,.int .i64 ar] 31)):=by (repeat (first | exact Below.refl _ _ | refine Below.alloc ?_ (by first | omega | (simp; done) | (simp; omega)) _ | refine Below.setCell ?_ (by first | omega | (simp; done) | (simp; omega)) _ | refine Below.drew ?_))
 rw [World.size_alloc] at hQ
 rw [World.size_alloc,World.size_alloc] at hX
 have HSORT:=Lib.hid HSORT0
 have HD:=Lib.hid hd
 have HD1:=Lib.hid hd1
 have HD2:=Lib.hid hd2
 have HD3:=Lib.hid hd3
 have HID3:Hid ((d.map Hp.id).length = n3):=by show _ = _; rw [List.length_map]; exact hd3
 have HW3:=Lib.hid hw3
 have HL:=Lib.hid (fun w' (hb:Below w.heap.size w w') => h.up hb)
 have HL1:=Lib.hid (fun w' (hb:Below w.heap.size w w') => h1.up hb)
 have HL2:=Lib.hid (fun w' (hb:Below w.heap.size w w') => h2.up hb)
 have HL3:=Lib.hid (fun w' (hb:Below w.heap.size w w') => h3.up hb)
 have HC:=Lib.hid hc
 have HR:=Lib.hid hr
 have HR2:=Lib.hid hr2
 have HOK:=Lib.hid hok
 have HO2:=Lib.hid ho2
 have HBF:=Lib.hid hb
 clear HSORT0 hd hd1 hd2 hd3 hw3 h h1 h2 h3 hc hr hr2 hok ho2 hb
 go_enter Tryz.func17,Tryz.ntmps17
 go_upto_region 1 with fail
 generalize ((w.alloc (.cells #[.slice A1 n1 c1,.slice A n c,.int .i64 clk,.int .i64 ver] 25)).alloc (.cells #[.int .i64 fr,.int .i64 tn,.int .i64 si,.int .i64 cl,.int .i64 de] 28)).alloc (.cells #[.slice A3 n3 c3,.int .i64 ar] 31) = w1 at *
 obtain ⟨rb,hrb⟩:∃ z,w.heap.size + 2 = z:=⟨_,rfl⟩
 obtain ⟨qb,hqb⟩:∃ z,w.heap.size + 1 = z:=⟨_,rfl⟩
 obtain ⟨pb,hpb⟩:∃ z,w.heap.size = z:=⟨_,rfl⟩
 have hx9:w.heap.size + 1 + 1 = rb:=hrb
 rw [hx9] at hX
 rw [hqb] at hQ
 rw [hpb] at hP
 try rw [hrb]
 try rw [hx9]
 try rw [hqb]
 try rw [hpb]
 clear hrb hqb hpb hx9
 have HB1:=Lib.hid hB
 have HX1:=Lib.hid hX
 have q0:w1.cell? ⟨qb,0,none⟩ = some (.int .i64 fr):=hQ.cell 0
 have q1:w1.cell? ⟨qb,1,none⟩ = some (.int .i64 tn):=hQ.cell 1
 have q2:w1.cell? ⟨qb,2,none⟩ = some (.int .i64 si):=hQ.cell 2
 have q3:w1.cell? ⟨qb,3,none⟩ = some (.int .i64 cl):=hQ.cell 3
 have q4:w1.cell? ⟨qb,4,none⟩ = some (.int .i64 de):=hQ.cell 4
 have lt_q:=hQ.lt
 have HP1:=Lib.hid hP
 have HQ1:=Lib.hid hQ
 clear hX hB hP hQ
 go_wp2_with fail
 refine (bundle_is ok HOK.out w1).mono ?_
 rintro e w4 ⟨rfl,hb⟩
 have HX4:=Lib.hid (HX1.out.below hb HX1.out.lt)
 have HP4:=Lib.hid (HP1.out.below hb HP1.out.lt)
 have HQ4:=Lib.hid (HQ1.out.below hb HQ1.out.lt)
 have HB4:=Lib.hid (HB1.out.trans (hb.mono HB1.out.size))
 clear hb q0 q1 q2 q3 q4 lt_q HX1 HP1 HQ1 HB1
 cases ok with
 | false =>
  have h1:b = false:=HBF.out.symm
  subst h1
  go_wp2_with fail
  go_ret
  exact ⟨rfl,HB4.out⟩
 | true =>
  obtain ⟨nE,hnE⟩:∃ z,(edgesX rs bk cl cs).length = z:=⟨_,rfl⟩
  have hnE2:nE ≤ n1:=by rw [← hnE,← HD1.out]; exact edgesX_len _ _ _ _
  obtain ⟨tq,ht2⟩:∃ z,arrO o2 = z:=⟨_,rfl⟩
  obtain ⟨Hq,hH2⟩:∃ z,hopsO o2 = z:=⟨_,rfl⟩
  obtain ⟨k2,hk2⟩:∃ z,o2.isSome = z:=⟨_,rfl⟩
  obtain ⟨nq,hn2⟩:∃ z,Hq.length = z:=⟨_,rfl⟩
  have hnq:nq ≤ n3:=by
   rw [← hn2,← hH2]
   cases ho:o2 with
   | none => exact Nat.zero_le _
   | some p =>
    have h4:=HO2.out
    rw [ho] at h4
    obtain ⟨es,_,e2,e3,_⟩:=rte_of_route h4
    show p.1.length ≤ n3
    rw [e3,hopsE_length,← HID3.out,← e2,List.length_map]
    exact Nat.le_refl _
  have HNE:=Lib.hid hnE
  have HT2:=Lib.hid ht2
  have HH2:=Lib.hid hH2
  have HK2:=Lib.hid hk2
  have HN2:=Lib.hid hn2
  have HUP:Hid (∀ w',Below w4.heap.size w4 w' → Below w.heap.size w w'):=fun w' hb => HB4.out.trans (hb.mono HB4.out.size)
  clear hnE ht2 hH2 hk2 hn2
  go_upto_region 3 with fail

  have hinj:∀ a c:Value,(fun u:Value => Value.tuple #[.agg #[u,.int .i64 tq],.bool k2]) a = (fun u:Value => Value.tuple #[.agg #[u,.int .i64 tq],.bool k2]) c → a = c:=fun a c h => by simpa using h
  have HINJ:=Lib.hid hinj
  clear hinj
  refine gen_frame ?_
  intro a0 ha0
  try simp only [List.append]
  refine wp_region_frames rfl (by kernel_rfl) (by kernel_rfl) (fun V x w' => Below w4.heap.size w4 w' ∧ TF [(0,.agg #[.slice A1 n1 c1,.slice A n c,.int .i64 clk,.int .i64 ver]),(1,.slice A2 n2 c2),(2,.pointer (some ⟨qb,3,none⟩)),(3,.int .i64 cl),(5,.agg #[.slice A3 n3 c3,.int .i64 ar]),(7,.pointer (some ⟨qb,0,none⟩)),(8,.int .i64 fr),(9,.pointer (some ⟨qb,1,none⟩)),(10,.int .i64 tn),(11,.pointer (some ⟨pb,2,none⟩)),(12,.int .i64 clk),(13,.pointer (some ⟨qb,2,none⟩)),(14,.int .i64 si),(18,.bool k2),(21,.bool k2)] V x ∧ (V.getD 4 true = true → V.getD 15 true = false → Fin1 (fun u:Value => u) w4.heap.size 86 8 nE (flatEd (edgesX rs bk cl cs)) w' (x 4)) ∧ (V.getD 6 true = true → V.getD 15 true = false → Fin1 (fun u:Value => u) w4.heap.size 3 1 n3 ((d.map Hp.id).map (Value.int .i64)) w' (x 6)) ∧ (V.getD 15 true = true → Fin1 (fun u:Value => Value.tuple #[.agg #[u,.int .i64 tq],.bool k2]) w4.heap.size 67 3 nq (flatHp Hq) w' (x 15)) ∧ (V.getD 16 true = true → x 16 = x 15) ∧ (V.getD 17 true = true → ∀ u,x 15 = (fun u:Value => Value.tuple #[.agg #[u,.int .i64 tq],.bool k2]) u → x 17 = (fun u:Value => Value.agg #[u,.int .i64 tq]) u) ∧ (V.getD 19 true = true → V.getD 20 true = false → VarP w4.heap.size 31 #[.slice none 0 0,.int .i64 0] w' (x 19) (fun b => V.getD 15 true = true → Off1 (fun u:Value => Value.tuple #[.agg #[u,.int .i64 tq],.bool k2]) b (x 15))) ∧ (V.getD 20 true = true → StoP w4.heap.size 31 w' (x 19) (x 17))) ?_ ?_ ?_
  ·intro x
   refine ⟨(Below.refl _ _).drew,TF.none rfl,?_,?_,?_,?_,?_,?_,?_⟩ <;> exact fun h => by simp at h
  ·intro V x b w' hbq hsz hF i hi hun haf hcl
   obtain ⟨hBw,hT,f4,f6,f15,f16,f17,f19,f20⟩:=hF
   have hbe:b = putAll a0 [some 15,some 16,some 17,some 18,some 19,some 20,some 21,some 22,some 23,some 24,some 25,some 26,some 27,some 28,some 29,some 30,some 14,some 31,some 32,some 9,none,some 10] x 0:=hbq
   have hz0:a0.tmps.size = 46:=by rw [ha0]; rfl
   have e1:b.eval (.tmp 1) = .slice A2 n2 c2:=by rw [hbe,eval_out _ _ _ (by decide),ha0]; rfl
   have t1:b.tmps[1]?.getD undef = .slice A2 n2 c2:=by simpa [Act.eval] using e1
   have e4:b.eval (.tmp 4) = .pointer (some ⟨pb,0,none⟩):=by rw [hbe,eval_out _ _ _ (by decide),ha0]; rfl
   have t4:b.tmps[4]?.getD undef = .pointer (some ⟨pb,0,none⟩):=by simpa [Act.eval] using e4
   have e6:b.eval (.tmp 6) = .pointer (some ⟨qb,0,none⟩):=by rw [hbe,eval_out _ _ _ (by decide),ha0]; rfl
   have t6:b.tmps[6]?.getD undef = .pointer (some ⟨qb,0,none⟩):=by simpa [Act.eval] using e6
   have e7:b.eval (.tmp 7) = .pointer (some ⟨rb,0,none⟩):=by rw [hbe,eval_out _ _ _ (by decide),ha0]; rfl
   have t7:b.tmps[7]?.getD undef = .pointer (some ⟨rb,0,none⟩):=by simpa [Act.eval] using e7
   have evc:∀ v,b.eval (.const v) = v:=fun _ => rfl
   have B0:=Below.refl w'.heap.size w'
   have EI:∀ (k e:Nat),([some 15,some 16,some 17,some 18,some 19,some 20,some 21,some 22,some 23,some 24,some 25,some 26,some 27,some 28,some 29,some 30,some 14,some 31,some 32,some 9,none,some 10]:List (Option Tmp))[k]? = some (some e) → e < 46 → b.eval (.tmp e) = x k:=fun k e h1 h2 => by rw [hbe,eval_in _ _ _ k (by decide) h1 (by rw [hz0]; exact h2),Nat.zero_add]
   clear hbq
   have hi':i < 22:=hi
   clear hi
   obtain rfl | rfl | rfl | rfl | rfl | rfl | rfl | rfl | rfl | rfl | rfl | rfl | rfl | rfl | rfl | rfl | rfl | rfl | rfl | rfl | rfl | rfl:i = 0 ∨ i = 1 ∨ i = 2 ∨ i = 3 ∨ i = 4 ∨ i = 5 ∨ i = 6 ∨ i = 7 ∨ i = 8 ∨ i = 9 ∨ i = 10 ∨ i = 11 ∨ i = 12 ∨ i = 13 ∨ i = 14 ∨ i = 15 ∨ i = 16 ∨ i = 17 ∨ i = 18 ∨ i = 19 ∨ i = 20 ∨ i = 21:=by omega
   ·have bq:=HP4.out.below hBw HP4.out.lt
    have n_0:w'.cell? ⟨pb,0,none⟩ = some (.slice A1 n1 c1):=bq.cell 0
    have n_1:w'.cell? ⟨pb,1,none⟩ = some (.slice A n c):=bq.cell 1
    have n_2:w'.cell? ⟨pb,2,none⟩ = some (.int .i64 clk):=bq.cell 2
    have n_3:w'.cell? ⟨pb,3,none⟩ = some (.int .i64 ver):=bq.cell 3
    have lt_n:=bq.lt
    refine wpOp_runs (v:=.agg #[.slice A1 n1 c1,.slice A n c,.int .i64 clk,.int .i64 ver]) rfl rfl (by simp [execOp,go_sem,t4,n_0,n_1,n_2,n_3,lt_n]) ⟨_,_,rfl,rfl,⟨hBw,hT.on 0 rfl rfl,kfD f4 rfl B0,kfD f6 rfl B0,kfF f15 rfl B0,kfE f16 rfl rfl rfl,kfX f17 rfl rfl rfl,kV f19 rfl rfl B0,kS f20 rfl rfl rfl B0⟩⟩
   ·refine wpOp_runs (v:=.slice A2 n2 c2) rfl rfl (by simp [execOp,go_sem,t1]) ⟨_,_,rfl,rfl,⟨hBw,hT.on 1 rfl rfl,kfD f4 rfl B0,kfD f6 rfl B0,kfF f15 rfl B0,kfE f16 rfl rfl rfl,kfX f17 rfl rfl rfl,kV f19 rfl rfl B0,kS f20 rfl rfl rfl B0⟩⟩
   ·refine wpOp_runs (v:=.pointer (some ⟨qb,3,none⟩)) rfl rfl (by simp [execOp,go_sem,t6]) ⟨_,_,rfl,rfl,⟨hBw,hT.on 2 rfl rfl,kfD f4 rfl B0,kfD f6 rfl B0,kfF f15 rfl B0,kfE f16 rfl rfl rfl,kfX f17 rfl rfl rfl,kV f19 rfl rfl B0,kS f20 rfl rfl rfl B0⟩⟩
   ·have d2:=getD_ft (haf _ rfl ⟨2,.data⟩ (by simp) rfl)
    have e17:=(EI 2 17 rfl (by decide)).trans (hT.get 2 rfl d2)
    have t17:=tev e17
    have bq:=HQ4.out.below hBw HQ4.out.lt
    have n_0:w'.cell? ⟨qb,3,none⟩ = some (.int .i64 cl):=bq.cell 3
    refine wpOp_runs (v:=.int .i64 cl) rfl rfl (by simp [execOp,go_sem,t17,n_0]) ⟨_,_,rfl,rfl,⟨hBw,hT.on 3 rfl rfl,kfD f4 rfl B0,kfD f6 rfl B0,kfF f15 rfl B0,kfE f16 rfl rfl rfl,kfX f17 rfl rfl rfl,kV f19 rfl rfl B0,kS f20 rfl rfl rfl B0⟩⟩
   ·have d0:=getD_ft (haf _ rfl ⟨0,.data⟩ (by simp) rfl)
    have e15:=(EI 0 15 rfl (by decide)).trans (hT.get 0 rfl d0)
    have t15:=tev e15
    have d1:=getD_ft (haf _ rfl ⟨1,.data⟩ (by simp) rfl)
    have e16:=(EI 1 16 rfl (by decide)).trans (hT.get 1 rfl d1)
    have t16:=tev e16
    have d3:=getD_ft (haf _ rfl ⟨3,.data⟩ (by simp) rfl)
    have e18:=(EI 3 18 rfl (by decide)).trans (hT.get 3 rfl d3)
    have t18:=tev e18
    refine wpOp_of rfl ?_
    refine step_call rfl 20 #[.tmp 15,.tmp 16,.tmp 18] _ rfl #[.agg #[.slice A1 n1 c1,.slice A n c,.int .i64 clk,.int .i64 ver],.slice A2 n2 c2,.int .i64 cl] (by simp [e15,e16,e18]) Tryz.func20 rfl rfl ?_
    refine (vallX_of HSORT.out A1 n1 c1 cs A n c rs clk ver A2 n2 c2 bk cl w' HD1.out (by omega) HD.out (by omega) HD2.out (by omega) (HL1.out _ (HUP.out _ hBw)) (HL.out _ (HUP.out _ hBw)) (HL2.out _ (HUP.out _ hBw)) HC.out HR.out HR2.out).mono ?_
    rintro e w'' ⟨v,rfl,hown,hb⟩
    rw [HNE.out] at hown
    exact ⟨_,rfl,_,_,rfl,rfl,⟨hBw.trans (hb.mono hBw.size),hT.off rfl,fun _ _ => by rw [upd_same]; exact ⟨_,rfl,own_down hown hBw.size⟩,kfD f6 rfl hb,kfF f15 rfl hb,kfE f16 rfl rfl rfl,kfX f17 rfl rfl rfl,kV f19 rfl rfl hb,kS f20 rfl rfl rfl hb⟩⟩
   ·have bq:=HX4.out.below hBw HX4.out.lt
    have n_0:w'.cell? ⟨rb,0,none⟩ = some (.slice A3 n3 c3):=bq.cell 0
    have n_1:w'.cell? ⟨rb,1,none⟩ = some (.int .i64 ar):=bq.cell 1
    have lt_n:=bq.lt
    refine wpOp_runs (v:=.agg #[.slice A3 n3 c3,.int .i64 ar]) rfl rfl (by simp [execOp,go_sem,t7,n_0,n_1,lt_n]) ⟨_,_,rfl,rfl,⟨hBw,hT.on 4 rfl rfl,kfD f4 rfl B0,kfD f6 rfl B0,kfF f15 rfl B0,kfE f16 rfl rfl rfl,kfX f17 rfl rfl rfl,kV f19 rfl rfl B0,kS f20 rfl rfl rfl B0⟩⟩
   ·have d5:=getD_ft (haf _ rfl ⟨5,.data⟩ (by simp) rfl)
    have e20:=(EI 5 20 rfl (by decide)).trans (hT.get 4 rfl d5)
    have t20:=tev e20
    refine wpOp_of rfl ?_
    refine step_call rfl 27 #[.tmp 20] _ rfl #[.agg #[.slice A3 n3 c3,.int .i64 ar]] (by simp [e20]) Tryz.func27 rfl rfl ?_
    refine (pids_any A3 n3 c3 d ar w' HD3.out (by omega) (HL3.out _ (HUP.out _ hBw))).mono ?_
    rintro e w'' ⟨v,rfl,hown,hb⟩
    exact ⟨_,rfl,_,_,rfl,rfl,⟨hBw.trans (hb.mono hBw.size),hT.off rfl,kfD f4 rfl hb,fun _ _ => by rw [upd_same]; exact ⟨_,rfl,own_down hown hBw.size⟩,kfF f15 rfl hb,kfE f16 rfl rfl rfl,kfX f17 rfl rfl rfl,kV f19 rfl rfl hb,kS f20 rfl rfl rfl hb⟩⟩
   ·refine wpOp_runs (v:=.pointer (some ⟨qb,0,none⟩)) rfl rfl (by simp [execOp,go_sem,t6]) ⟨_,_,rfl,rfl,⟨hBw,hT.on 5 rfl rfl,kfD f4 rfl B0,kfD f6 rfl B0,kfF f15 rfl B0,kfE f16 rfl rfl rfl,kfX f17 rfl rfl rfl,kV f19 rfl rfl B0,kS f20 rfl rfl rfl B0⟩⟩
   ·have d7:=getD_ft (haf _ rfl ⟨7,.data⟩ (by simp) rfl)
    have e22:=(EI 7 22 rfl (by decide)).trans (hT.get 5 rfl d7)
    have t22:=tev e22
    have bq:=HQ4.out.below hBw HQ4.out.lt
    have n_0:w'.cell? ⟨qb,0,none⟩ = some (.int .i64 fr):=bq.cell 0
    refine wpOp_runs (v:=.int .i64 fr) rfl rfl (by simp [execOp,go_sem,t22,n_0]) ⟨_,_,rfl,rfl,⟨hBw,hT.on 6 rfl rfl,kfD f4 rfl B0,kfD f6 rfl B0,kfF f15 rfl B0,kfE f16 rfl rfl rfl,kfX f17 rfl rfl rfl,kV f19 rfl rfl B0,kS f20 rfl rfl rfl B0⟩⟩
   ·refine wpOp_runs (v:=.pointer (some ⟨qb,1,none⟩)) rfl rfl (by simp [execOp,go_sem,t6]) ⟨_,_,rfl,rfl,⟨hBw,hT.on 7 rfl rfl,kfD f4 rfl B0,kfD f6 rfl B0,kfF f15 rfl B0,kfE f16 rfl rfl rfl,kfX f17 rfl rfl rfl,kV f19 rfl rfl B0,kS f20 rfl rfl rfl B0⟩⟩
   ·have d9:=getD_ft (haf _ rfl ⟨9,.data⟩ (by simp) rfl)
    have e24:=(EI 9 24 rfl (by decide)).trans (hT.get 7 rfl d9)
    have t24:=tev e24
    have bq:=HQ4.out.below hBw HQ4.out.lt
    have n_0:w'.cell? ⟨qb,1,none⟩ = some (.int .i64 tn):=bq.cell 1
    refine wpOp_runs (v:=.int .i64 tn) rfl rfl (by simp [execOp,go_sem,t24,n_0]) ⟨_,_,rfl,rfl,⟨hBw,hT.on 8 rfl rfl,kfD f4 rfl B0,kfD f6 rfl B0,kfF f15 rfl B0,kfE f16 rfl rfl rfl,kfX f17 rfl rfl rfl,kV f19 rfl rfl B0,kS f20 rfl rfl rfl B0⟩⟩
   ·refine wpOp_runs (v:=.pointer (some ⟨pb,2,none⟩)) rfl rfl (by simp [execOp,go_sem,t4]) ⟨_,_,rfl,rfl,⟨hBw,hT.on 9 rfl rfl,kfD f4 rfl B0,kfD f6 rfl B0,kfF f15 rfl B0,kfE f16 rfl rfl rfl,kfX f17 rfl rfl rfl,kV f19 rfl rfl B0,kS f20 rfl rfl rfl B0⟩⟩
   ·have d11:=getD_ft (haf _ rfl ⟨11,.data⟩ (by simp) rfl)
    have e26:=(EI 11 26 rfl (by decide)).trans (hT.get 9 rfl d11)
    have t26:=tev e26
    have bq:=HP4.out.below hBw HP4.out.lt
    have n_0:w'.cell? ⟨pb,2,none⟩ = some (.int .i64 clk):=bq.cell 2
    refine wpOp_runs (v:=.int .i64 clk) rfl rfl (by simp [execOp,go_sem,t26,n_0]) ⟨_,_,rfl,rfl,⟨hBw,hT.on 10 rfl rfl,kfD f4 rfl B0,kfD f6 rfl B0,kfF f15 rfl B0,kfE f16 rfl rfl rfl,kfX f17 rfl rfl rfl,kV f19 rfl rfl B0,kS f20 rfl rfl rfl B0⟩⟩
   ·refine wpOp_runs (v:=.pointer (some ⟨qb,2,none⟩)) rfl rfl (by simp [execOp,go_sem,t6]) ⟨_,_,rfl,rfl,⟨hBw,hT.on 11 rfl rfl,kfD f4 rfl B0,kfD f6 rfl B0,kfF f15 rfl B0,kfE f16 rfl rfl rfl,kfX f17 rfl rfl rfl,kV f19 rfl rfl B0,kS f20 rfl rfl rfl B0⟩⟩
   ·have d13:=getD_ft (haf _ rfl ⟨13,.data⟩ (by simp) rfl)
    have e28:=(EI 13 28 rfl (by decide)).trans (hT.get 11 rfl d13)
    have t28:=tev e28
    have bq:=HQ4.out.below hBw HQ4.out.lt
    have n_0:w'.cell? ⟨qb,2,none⟩ = some (.int .i64 si):=bq.cell 2
    refine wpOp_runs (v:=.int .i64 si) rfl rfl (by simp [execOp,go_sem,t28,n_0]) ⟨_,_,rfl,rfl,⟨hBw,hT.on 12 rfl rfl,kfD f4 rfl B0,kfD f6 rfl B0,kfF f15 rfl B0,kfE f16 rfl rfl rfl,kfX f17 rfl rfl rfl,kV f19 rfl rfl B0,kS f20 rfl rfl rfl B0⟩⟩
   ·have d4:=getD_ft (haf _ rfl ⟨4,.data⟩ (by simp) rfl)
    have e19:=EI 4 19 rfl (by decide)
    obtain ⟨m4,me4,mo4⟩:=f4 d4 hun
    rw [me4] at e19
    have t19:=tev e19
    have d6:=getD_ft (haf _ rfl ⟨6,.data⟩ (by simp) rfl)
    have e21:=EI 6 21 rfl (by decide)
    obtain ⟨m6,me6,mo6⟩:=f6 d6 hun
    rw [me6] at e21
    have t21:=tev e21
    have d8:=getD_ft (haf _ rfl ⟨8,.data⟩ (by simp) rfl)
    have e23:=(EI 8 23 rfl (by decide)).trans (hT.get 6 rfl d8)
    have t23:=tev e23
    have d10:=getD_ft (haf _ rfl ⟨10,.data⟩ (by simp) rfl)
    have e25:=(EI 10 25 rfl (by decide)).trans (hT.get 8 rfl d10)
    have t25:=tev e25
    have d12:=getD_ft (haf _ rfl ⟨12,.data⟩ (by simp) rfl)
    have e27:=(EI 12 27 rfl (by decide)).trans (hT.get 10 rfl d12)
    have t27:=tev e27
    have d14:=getD_ft (haf _ rfl ⟨14,.data⟩ (by simp) rfl)
    have e29:=(EI 14 29 rfl (by decide)).trans (hT.get 12 rfl d14)
    have t29:=tev e29
    obtain ⟨A7,c7,hm7⟩:=slice_of_own mo4
    subst hm7
    obtain ⟨A8,c8,hm8⟩:=slice_of_own mo6
    subst hm8
    refine wpOp_of rfl ?_
    refine step_call rfl 19 #[.tmp 19,.tmp 21,.tmp 23,.tmp 25,.tmp 27,.tmp 29] _ rfl #[.slice A7 nE c7,.slice A8 n3 c8,.int .i64 fr,.int .i64 tn,.int .i64 clk,.int .i64 si] (by simp [e19,e21,e23,e25,e27,e29]) Tryz.func19 rfl rfl ?_
    refine (proute_o A7 nE c7 (edgesX rs bk cl cs) A8 n3 c8 (d.map Hp.id) fr tn clk si w' HNE.out (by omega) HID3.out (by omega) HW3.out (Sl.of_own mo4) (Sl.of_own mo6) o2 HO2.out Hq HH2.out tq HT2.out k2 HK2.out).mono ?_
    rintro e w'' ⟨Av,nv,cv,rfl,hnv,hnv2,hown,hb⟩
    obtain rfl:nq = nv:=HN2.out.symm.trans hnv
    exact ⟨_,rfl,_,_,rfl,rfl,⟨hBw.trans (hb.mono hBw.size),hT.off rfl,kfD f4 rfl hb,kfD f6 rfl hb,fun _ => by rw [upd_same]; exact ⟨_,rfl,own_down hown hBw.size⟩,fun h => absurd (getD_ft (hcl 16 _ rfl (un_set (i:=15) rfl h) ⟨15,.data⟩ (by simp) rfl)) (by rw [hun]; decide),fun h => absurd (getD_ft (hcl 16 _ rfl (getD_ft (hcl 17 _ rfl (un_set (i:=15) rfl h) ⟨16,.data⟩ (by simp) rfl)) ⟨15,.data⟩ (by simp) rfl)) (by rw [hun]; decide),kVi f19 rfl hb HINJ.out hown,kS f20 rfl rfl rfl hb⟩⟩
   ·have d15:=getD_ft (haf _ rfl ⟨15,.data⟩ (by simp) rfl)
    have e30:=EI 15 30 rfl (by decide)
    have dF:=d15
    obtain ⟨uZ,eZ,oZ⟩:=f15 dF
    have t30:=tev e30
    refine wpOp_runs (v:=x 15) rfl rfl (by simp [execOp,go_sem,t30]) ⟨_,_,rfl,rfl,⟨hBw,hT.off rfl,kfD f4 rfl B0,kfD f6 rfl B0,kfF f15 rfl B0,fun _ => by rw [upd_same,upd_off x _ rfl],kfX f17 rfl rfl rfl,kV f19 rfl rfl B0,kS f20 rfl rfl rfl B0⟩⟩
   ·have d16:=getD_ft (haf _ rfl ⟨16,.data⟩ (by simp) rfl)
    have e14:=(EI 16 14 rfl (by decide)).trans (f16 d16)
    have dF:=(getD_ft (hcl 16 _ rfl d16 ⟨15,.data⟩ (by simp) rfl))
    obtain ⟨uZ,eZ,oZ⟩:=f15 dF
    rw [eZ] at e14
    have t14:=tev e14
    refine wpOp_runs (v:=Value.agg #[uZ,.int .i64 tq]) rfl rfl (by simp [execOp,go_sem,t14]) ⟨_,_,rfl,rfl,⟨hBw,hT.off rfl,kfD f4 rfl B0,kfD f6 rfl B0,kfF f15 rfl B0,kfE f16 rfl rfl rfl,fun _ u' hu => by rw [upd_off x _ rfl] at hu; rw [upd_same,← HINJ.out _ _ (eZ.symm.trans hu)],kV f19 rfl rfl B0,fun h => absurd (getD_ft (hcl 20 _ rfl (un_set (i:=17) rfl h) ⟨17,.data⟩ (by simp) rfl)) (by rw [hun]; decide)⟩⟩
   ·have d16:=getD_ft (haf _ rfl ⟨16,.data⟩ (by simp) rfl)
    have e14:=(EI 16 14 rfl (by decide)).trans (f16 d16)
    have dF:=(getD_ft (hcl 16 _ rfl d16 ⟨15,.data⟩ (by simp) rfl))
    obtain ⟨uZ,eZ,oZ⟩:=f15 dF
    rw [eZ] at e14
    have t14:=tev e14
    refine wpOp_runs (v:=.bool k2) rfl rfl (by simp [execOp,go_sem,t14]) ⟨_,_,rfl,rfl,⟨hBw,hT.on 13 rfl rfl,kfD f4 rfl B0,kfD f6 rfl B0,kfF f15 rfl B0,kfE f16 rfl rfl rfl,kfX f17 rfl rfl rfl,kV f19 rfl rfl B0,kS f20 rfl rfl rfl B0⟩⟩
   ·have hb:Below w'.heap.size w' (w'.alloc (.cells #[.slice none 0 0,.int .i64 0] 31)):=(Below.refl _ _).alloc (Nat.le_refl _) _
    refine wpOp_runs (v:=.pointer (some ⟨w'.heap.size,0,none⟩)) (w':=w'.alloc (.cells #[.slice none 0 0,.int .i64 0] 31)) rfl rfl (by simp [execOp,go_sem]) ⟨_,_,rfl,rfl,⟨hBw.trans (hb.mono hBw.size),hT.off rfl,kfD f4 rfl hb,kfD f6 rfl hb,kfF f15 rfl hb,kfE f16 rfl rfl rfl,kfX f17 rfl rfl rfl,kVm f15 hBw.size rfl HINJ.out,fun h => absurd (getD_ft (hcl 20 _ rfl (un_set (i:=19) rfl h) ⟨19,.data⟩ (by simp) rfl)) (by rw [hun]; decide)⟩⟩
   ·have d17:=getD_ft (haf _ rfl ⟨17,.data⟩ (by simp) rfl)
    have e31:=EI 17 31 rfl (by decide)
    have dF:=(getD_ft (hcl 16 _ rfl (getD_ft (hcl 17 _ rfl d17 ⟨16,.data⟩ (by simp) rfl)) ⟨15,.data⟩ (by simp) rfl))
    obtain ⟨uZ,eZ,oZ⟩:=f15 dF
    rw [f17 d17 uZ eZ] at e31
    have t31:=tev e31
    have d19:=getD_ft (haf _ rfl ⟨19,.data⟩ (by simp) rfl)
    have e9:=EI 19 9 rfl (by decide)
    have t9:=tev e9
    obtain ⟨b9,hx9,hl9,hk9,hn9⟩:=f19 d19 hun
    have n9:=hn9 dF uZ eZ
    rw [hx9] at e9
    have dd15:=(getD_ft (hcl 16 _ rfl (getD_ft (hcl 17 _ rfl d17 ⟨16,.data⟩ (by simp) rfl)) ⟨15,.data⟩ (by simp) rfl))
    have dd15:=(getD_ft (hcl 16 _ rfl (getD_ft (hcl 17 _ rfl d17 ⟨16,.data⟩ (by simp) rfl)) ⟨15,.data⟩ (by simp) rfl))
    obtain ⟨A9,c9,hu9⟩:=slice_of_own oZ
    refine wpOp_of rfl ?_
    rw [if_pos (by simp [Region.wanted])]
    refine wp_store_mid 31 (.tmp 9) (.tmp 31) rfl b9 0 #[uZ,.int .i64 tq] e9 e31 ?_ (by kernel_rfl) (by rw [hu9]; simp [Value.oneCell']) ?_
    ·intro j hj
     have hj':j < 2:=hj
     rw [Nat.zero_add]
     refine ⟨?_,hk9.free j⟩
     rw [hk9.cell j]
     obtain rfl | rfl:j = 0 ∨ j = 1:=by omega
     all_goals rfl
    ·exact ⟨_,_,rfl,rfl,⟨set_below b9 hl9 _ _ hBw,hT.off rfl,fun _ h2 => absurd (un_setF (ne_of_down h2) h2) (by rw [dd15]; decide),fun _ h2 => absurd (un_setF (ne_of_down h2) h2) (by rw [dd15]; decide),fun _ => by rw [upd_off x _ rfl]; exact ⟨uZ,eZ,oZ.kept (grown_sets _ _ _) (.inr n9)⟩,kfE f16 rfl rfl rfl,kfX f17 rfl rfl rfl,fun _ h2 => absurd h2 (by rw [set_up]; decide),fun _ => by rw [upd_off x _ rfl,upd_off x _ rfl]; exact ⟨b9,#[uZ,.int .i64 tq],hx9,hl9,f17 d17 uZ eZ,set_whole hk9 rfl⟩⟩⟩
   ·have d18:=getD_ft (haf _ rfl ⟨18,.data⟩ (by simp) rfl)
    have e32:=(EI 18 32 rfl (by decide)).trans (hT.get 13 rfl d18)
    have t32:=tev e32
    refine wpOp_runs (v:=.bool k2) rfl rfl (by simp [execOp,go_sem,t32]) ⟨_,_,rfl,rfl,⟨hBw,hT.on 14 rfl rfl,kfD f4 rfl B0,kfD f6 rfl B0,kfF f15 rfl B0,kfE f16 rfl rfl rfl,kfX f17 rfl rfl rfl,kV f19 rfl rfl B0,kS f20 rfl rfl rfl B0⟩⟩
  intro V x w5 hall hF
  obtain ⟨hBw,hT,f4,f6,f15,f16,f17,f19,f20⟩:=hF
  have hx0:=hT.get 0 rfl (hall 0 (by decide))
  have hx1:=hT.get 1 rfl (hall 1 (by decide))
  have hx2:=hT.get 2 rfl (hall 2 (by decide))
  have hx3:=hT.get 3 rfl (hall 3 (by decide))
  have hx5:=hT.get 4 rfl (hall 5 (by decide))
  have hx7:=hT.get 5 rfl (hall 7 (by decide))
  have hx8:=hT.get 6 rfl (hall 8 (by decide))
  have hx9:=hT.get 7 rfl (hall 9 (by decide))
  have hx10:=hT.get 8 rfl (hall 10 (by decide))
  have hx11:=hT.get 9 rfl (hall 11 (by decide))
  have hx12:=hT.get 10 rfl (hall 12 (by decide))
  have hx13:=hT.get 11 rfl (hall 13 (by decide))
  have hx14:=hT.get 12 rfl (hall 14 (by decide))
  have hx18:=hT.get 13 rfl (hall 18 (by decide))
  have hx21:=hT.get 14 rfl (hall 21 (by decide))
  obtain ⟨uF,eF,oF⟩:=f15 (hall 15 (by decide))
  have hx16:x 16 = (fun u:Value => Value.tuple #[.agg #[u,.int .i64 tq],.bool k2]) uF:=(f16 (hall 16 (by decide))).trans eF
  have hx17:=f17 (hall 17 (by decide)) uF eF
  obtain ⟨bV,csV,eV,hVb,eA,hV⟩:=f20 (hall 20 (by decide))
  rw [hx17] at eA
  have eA2:=Value.agg.inj eA
  subst eA2
  clear eA
  clear hall f4 f6 f15 f16 f17 f19 f20 hT
  subst ha0
  simp only [List.map_cons,List.map_nil,putAll,hx0,hx1,hx2,hx3,hx5,hx7,hx8,hx9,hx10,hx11,hx12,hx13,hx14,hx18,hx21,hx16,hx17,eF,eV]
  clear hx0 hx1 hx2 hx3 hx5 hx7 hx8 hx9 hx10 hx11 hx12 hx13 hx14 hx18 hx21 hx16 hx17 eF eV
  go_simp
  have hX5:=HX4.out.below hBw HX4.out.lt
  have hQ5:=HQ4.out.below hBw HQ4.out.lt
  have HB5:=Lib.hid (HB4.out.trans (hBw.mono HB4.out.size))
  obtain ⟨Au,cu,hAu⟩:=slice_of_own oF
  subst hAu
  have v0:w5.cell? ⟨bV,0,none⟩ = some (.slice Au nq cu):=hV.cell 0
  have v1:w5.cell? ⟨bV,1,none⟩ = some (.int .i64 tq):=hV.cell 1
  have s0:w5.cell? ⟨rb,0,none⟩ = some (.slice A3 n3 c3):=hX5.cell 0
  have s1:w5.cell? ⟨rb,1,none⟩ = some (.int .i64 ar):=hX5.cell 1
  have q4:w5.cell? ⟨qb,4,none⟩ = some (.int .i64 de):=hQ5.cell 4
  have lt_v:=hV.lt
  have lt_r:=hX5.lt
  have lt_q:=hQ5.lt
  have HQX:=Lib.hid (Sl.of_own oF)
  have HQY:=Lib.hid (HL3.out _ (HUP.out _ hBw))
  have HX5:=Lib.hid hX5
  have HQ5:=Lib.hid hQ5
  clear hX5 hQ5 hV oF hBw
  cases k2 with
  | false =>
   have ho2:o2 = none:=by have h:=HK2.out; cases o2 with | none => rfl | some x => cases h
   have h1:b = false:=by rw [← HBF.out,ho2]; rfl
   subst h1
   clear ho2
   go_wp2_with fail
   go_ret
   exact ⟨rfl,HB5.out⟩
  | true =>
   obtain ⟨p,hp⟩:∃ p,o2 = some p:=Option.isSome_iff_exists.1 HK2.out
   have e1:p.1 = Hq:=by have h:=HH2.out; rw [hp] at h; exact h
   have e2:p.2 = tq:=by have h:=HT2.out; rw [hp] at h; exact h
   obtain ⟨sm,hsm⟩:∃ z,(decide (tq = ar) && decide (Hq = d)) = z:=⟨_,rfl⟩
   have HBF2:Hid ((sm && decide (ar ≤ de)) = b):=by
    show _ = b
    rw [← HBF.out,hp,← hsm,← e1,← e2]
    rfl
   have HSM:=Lib.hid hsm
   clear hp e1 e2 hsm
   cases sm with
   | false =>
    have h1:b = false:=HBF2.out.symm
    subst h1
    go_wp2_with fail
    clear v0 v1 s0 s1 q4 lt_v lt_r lt_q
    refine (psame_any Au A3 nq cu n3 c3 Hq d tq ar w5 HN2.out HD3.out (by omega) (by omega) HQX.out HQY.out false HSM.out).mono ?_
    rintro e wq ⟨rfl,hb⟩
    have bx:=HX5.out.below hb HX5.out.lt
    have bq:=HQ5.out.below hb HQ5.out.lt
    have s1:wq.cell? ⟨rb,1,none⟩ = some (.int .i64 ar):=bx.cell 1
    have q4:wq.cell? ⟨qb,4,none⟩ = some (.int .i64 de):=bq.cell 4
    have lt_r:=bx.lt
    have lt_q:=bq.lt
    have hBq:=HB5.out.trans (hb.mono HB5.out.size)
    clear bx bq hb
    go_wp2_with fail
    go_ret
    exact ⟨rfl,hBq⟩
   | true =>
    by_cases hle:ar ≤ de
    ·have h1:b = true:=by rw [← HBF2.out]; simpa using hle
     subst h1
     have g1:decide (ar ≤ de) = true:=decide_eq_true hle
     clear hle
     go_wp2_with fail
     clear v0 v1 s0 s1 q4 lt_v lt_r lt_q
     refine (psame_any Au A3 nq cu n3 c3 Hq d tq ar w5 HN2.out HD3.out (by omega) (by omega) HQX.out HQY.out true HSM.out).mono ?_
     rintro e wq ⟨rfl,hb⟩
     have bx:=HX5.out.below hb HX5.out.lt
     have bq:=HQ5.out.below hb HQ5.out.lt
     have s1:wq.cell? ⟨rb,1,none⟩ = some (.int .i64 ar):=bx.cell 1
     have q4:wq.cell? ⟨qb,4,none⟩ = some (.int .i64 de):=bq.cell 4
     have lt_r:=bx.lt
     have lt_q:=bq.lt
     have hBq:=HB5.out.trans (hb.mono HB5.out.size)
     clear bx bq hb
     go_wp2_with fail
     go_ret
     exact ⟨rfl,hBq⟩
    ·have h1:b = false:=by rw [← HBF2.out]; simpa using hle
     subst h1
     have g1:decide (ar ≤ de) = false:=decide_eq_false hle
     clear hle
     go_wp2_with fail
     clear v0 v1 s0 s1 q4 lt_v lt_r lt_q
     refine (psame_any Au A3 nq cu n3 c3 Hq d tq ar w5 HN2.out HD3.out (by omega) (by omega) HQX.out HQY.out true HSM.out).mono ?_
     rintro e wq ⟨rfl,hb⟩
     have bx:=HX5.out.below hb HX5.out.lt
     have bq:=HQ5.out.below hb HQ5.out.lt
     have s1:wq.cell? ⟨rb,1,none⟩ = some (.int .i64 ar):=bx.cell 1
     have q4:wq.cell? ⟨qb,4,none⟩ = some (.int .i64 de):=bq.cell 4
     have lt_r:=bx.lt
     have lt_q:=bq.lt
     have hBq:=HB5.out.trans (hb.mono HB5.out.size)
     clear bx bq hb
     go_wp2_with fail
     go_ret
     exact ⟨rfl,hBq⟩
end Go.Proofs.YtodcoockhkghdaaGreat
