/- Acts of bytes, directives, what is the same, and counts are the document's: ScriptTells returns true. No condition. -/
import Derived.Test.YtggdomeeienjbaaDoorW5
import Derived.Test.YtggdomeeienjbaaDoorRows
namespace Go.Proofs.YtggdomeeienjbaaDoor
open Go.ChangeShapes Go.WideShapes Go.ChangeAt Go.RowKit Go.Sort
set_option linter.unusedSimpArgs false
set_option linter.unusedVariables false
theorem ten_tells {W:World} (h:laidMetH Tryd.prog Rows.scriptTellsRow.laid W):TenTab W:=by
  have h1 := laidMetH.filter (fun x => x.1 == "internal/strconv.uint64pow10") h
  rw [MakeChecks.laidMetH_plain _ _ _ (by kernel_rfl)] at h1
  have h2 : laidMet Tryd.prog [("internal/strconv.uint64pow10", Lib.tabData .u64 Lib.pow10Tab)] W := h1
  exact Lib.tabIs_of_head (g:=1) (t:=105) (e:=98) (n:=20) (by kernel_rfl) (by kernel_rfl) Tryd.underlying105 Tryd.underlying98 (by kernel_rfl) (by kernel_rfl) h2
/-- The kinds of an act's cells. -/
def ksAct:List Ck:=[.i,.s,.i,.i,.i,.i,.i,.i,.i,.i,.i,.i,.i,.i,.i,.i,.l,.i,.i,.i,.i,.i,.i,.i]
def Ax.pre (w:World) (x:Ax):Prop:=x.p.ids.length = x.k ∧ Sl w w.heap.size 1 x.A x.k x.c (x.p.ids.map (Value.int .i64))
theorem ax_of_cs {w:World} {cs:List Value} (h:AllK w ksAct cs):∃ x:Ax,x.cs = cs ∧ x.pre w:=by
  obtain ⟨c0,r0,rfl,⟨m0,rfl,_⟩,  c1,r1,rfl,⟨s1,rfl⟩,  c2,r2,rfl,⟨m2,rfl,_⟩,  c3,r3,rfl,⟨m3,rfl,_⟩,  c4,r4,rfl,⟨m4,rfl,_⟩,  c5,r5,rfl,⟨m5,rfl,_⟩,  c6,r6,rfl,⟨m6,rfl,_⟩,  c7,r7,rfl,⟨m7,rfl,_⟩,  c8,r8,rfl,⟨m8,rfl,_⟩,  c9,r9,rfl,⟨m9,rfl,_⟩,  c10,r10,rfl,⟨m10,rfl,_⟩,  c11,r11,rfl,⟨m11,rfl,_⟩,  c12,r12,rfl,⟨m12,rfl,_⟩,  c13,r13,rfl,⟨m13,rfl,_⟩,  c14,r14,rfl,⟨m14,rfl,_⟩,  c15,r15,rfl,⟨m15,rfl,_⟩,  c16,r16,rfl,⟨A,n,c,ns,rfl,hs,hn,_⟩,  c17,r17,rfl,⟨m17,rfl,_⟩,  c18,r18,rfl,⟨m18,rfl,_⟩,  c19,r19,rfl,⟨m19,rfl,_⟩,  c20,r20,rfl,⟨m20,rfl,_⟩,  c21,r21,rfl,⟨m21,rfl,_⟩,  c22,r22,rfl,⟨m22,rfl,_⟩,  c23,r23,rfl,⟨m23,rfl,_⟩,hend⟩:=h
  have hend':r23 = []:=hend
  subst hend'
  refine ⟨⟨⟨m0,s1.data.toList,⟨m2,m3,m4,m5,m6,m7,m8,m9,m10,m11,m12,m13,m14⟩,m15,ns,m17,m18,m19,m20,m21,m22,m23⟩,A,n,c⟩,?_,hn,hs⟩
  unfold Ax.cs Pa.cs
  rw [bs_of]
theorem ax_of_css {w:World}:∀ {css:List (List Value)},(∀ cs ∈ css,AllK w ksAct cs) → ∃ L:List Ax,L.length = css.length ∧ flatAx L = css.flatten ∧ ∀ x ∈ L,x.pre w
  | [],_ => ⟨[],rfl,rfl,by simp⟩
  | cs :: css,h => by
    obtain ⟨x,h1,h2⟩:=ax_of_cs (h cs (by simp))
    obtain ⟨L,h3,h4,h5⟩:=ax_of_css (css:=css) (fun c hc => h c (by simp [hc]))
    refine ⟨x :: L,by simp [h3],?_,fun y hy => ?_⟩
    · rw [show flatAx (x :: L) = x.cs ++ flatAx L from rfl,h1,h4]; rfl
    · rcases List.mem_cons.1 hy with rfl | hy
      · exact h2
      · exact h5 y hy
theorem acts_ids:∀ (k:Nat) (l:List Nat),l.length ≤ k → ∀ p ∈ actsF l,p.ids.length ≤ 2
  | 0,l,h,p,hp => by rw [actsF_nil (by omega)] at hp; cases hp
  | k + 1,l,h,p,hp => by
    by_cases hl:10 ≤ l.length
    · rw [actsF_next hl] at hp
      rcases List.mem_cons.1 hp with rfl | hp
      · exact actF_ids _ _ _ _ _ _ _ _ _
      · exact acts_ids k _ (by simp; omega) p hp
    · rw [actsF_nil (by omega)] at hp; cases hp
theorem mem_gAx {L:List Ax} {x:Ax} (h:x ∈ L):∃ j,j < L.length ∧ gAx L j = x:=by
  obtain ⟨j,hj,rfl⟩:=List.getElem_of_mem h
  exact ⟨j,hj,by unfold gAx; rw [List.getD_eq_getElem?_getD,List.getElem?_eq_getElem hj]; rfl⟩
theorem scountv (A:Option Addr) (n c:Nat) (l:List Ax) (d:Int) (K:Nat) (w:World) (hl:l.length = n) (hn:n ≤ 1000000) (h:Sl w w.heap.size 24 A n c (flatAx l)) (hK:cntF l d = K) :
    Calls Tryd.prog 13 #[.slice A n c,.int .i64 d] w fun e w' => e = .returned (.int .i64 (K:Nat)) ∧ Below w.heap.size w w':=by
  subst hK
  exact scount_any A n c l d w hl hn h
theorem r25countv (A:Option Addr) (n c:Nat) (l:List Ax) (d:Int) (K:Nat) (w:World) (hl:l.length = n) (hn:n ≤ 1000000) (h:Sl w w.heap.size 24 A n c (flatAx l)) (hK:cntF l d = K) :
    Calls Tryd.prog 14 #[.slice A n c,.int .i64 d] w fun e w' => e = .returned (.int .i64 (K:Nat)) ∧ Below w.heap.size w w':=by
  subst hK
  exact r25count_any A n c l d w hl hn h

set_option maxHeartbeats 16000000 in
set_option maxRecDepth 100000 in
theorem scriptTells_walk (A:Option Addr) (n c:Nat) (ns:List Nat) (b0 b1 b2 b3 b4 b5 b6 b7 b8 b9:Nat) (A2:Option Addr) (n2 c2:Nat) (css:List (List Value)) (d:Int) (hnl:ns.length = n) (hby:∀ x ∈ ns,x < 256) (hbx:∀ m ∈ [b0,b1,b2,b3,b4,b5,b6,b7,b8,b9],m < 256) (hcl:css.length = n2) (_:(Lit.int .i64 d).wf = true) (w:World) (ht:TenTab w) (hl:Sl w w.heap.size 1 A n c (cB ns)) (hl2:Sl w w.heap.size 24 A2 n2 c2 css.flatten ∧ ∀ cs ∈ css,AllK w ksAct cs) :
    Calls Tryd.prog 3 #[.slice A n c,.agg #[.int .u8 (b0:Nat),.int .u8 (b1:Nat),.int .u8 (b2:Nat),.int .u8 (b3:Nat),.int .u8 (b4:Nat),.int .u8 (b5:Nat),.int .u8 (b6:Nat),.int .u8 (b7:Nat),.int .u8 (b8:Nat),.int .u8 (b9:Nat)],.slice A2 n2 c2,.int .i64 d] w fun e w' => e = .returned (.bool true) ∧ Below w.heap.size w w':=by
  obtain ⟨L,hL1,hL2,hL3⟩:=ax_of_css hl2.2
  have hl3:=hl2.1
  rw [← hL2] at hl3
  rw [hcl] at hL1
  clear hL2 hl2 hcl css
  have h0:b0 < 256:=hbx _ (by simp)
  have h1:b1 < 256:=hbx _ (by simp)
  have h2:b2 < 256:=hbx _ (by simp)
  have h3:b3 < 256:=hbx _ (by simp)
  have h4:b4 < 256:=hbx _ (by simp)
  have h5:b5 < 256:=hbx _ (by simp)
  have h6:b6 < 256:=hbx _ (by simp)
  have h7:b7 < 256:=hbx _ (by simp)
  have h8:b8 < 256:=hbx _ (by simp)
  have h9:b9 < 256:=hbx _ (by simp)
  obtain ⟨D,hD⟩:∃ D,dirF b1 b2 b3 b4 b5 b6 b7 = D:=⟨_,rfl⟩
  have HD:=Lib.hid hD
  have HBY:=Lib.hid hby
  have HNL:=Lib.hid hnl
  have TT:=Lib.hid ht
  have HPR:=Lib.hid hL3
  have HLL:=Lib.hid hL1
  clear hD hby hnl ht hL3 hL1 hbx
  have H0:=Lib.hid h0
  have H1:=Lib.hid h1
  have H2:=Lib.hid h2
  have H3:=Lib.hid h3
  have H4:=Lib.hid h4
  have H5:=Lib.hid h5
  have H6:=Lib.hid h6
  have H7:=Lib.hid h7
  have H8:=Lib.hid h8
  have H9:=Lib.hid h9
  clear h0 h1 h2 h3 h4 h5 h6 h7 h8 h9
  have hB:Below w.heap.size w (w.alloc (.cells #[.int .u8 (b0:Nat),.int .u8 (b1:Nat),.int .u8 (b2:Nat),.int .u8 (b3:Nat),.int .u8 (b4:Nat),.int .u8 (b5:Nat),.int .u8 (b6:Nat),.int .u8 (b7:Nat),.int .u8 (b8:Nat),.int .u8 (b9:Nat)] 23)):=by (repeat (first | exact Below.refl _ _ | refine Below.alloc ?_ (by first | omega | (simp; done) | (simp; omega)) _ | refine Below.setCell ?_ (by first | omega | (simp; done) | (simp; omega)) _ | refine Below.drew ?_))
  have hX:=Blok.new w 23 #[.int .u8 (b0:Nat),.int .u8 (b1:Nat),.int .u8 (b2:Nat),.int .u8 (b3:Nat),.int .u8 (b4:Nat),.int .u8 (b5:Nat),.int .u8 (b6:Nat),.int .u8 (b7:Nat),.int .u8 (b8:Nat),.int .u8 (b9:Nat)]
  have hs:=hB.size
  have HB1:=Lib.hid (hl.up hB)
  have HL1:=Lib.hid (hl3.up hB)
  have HPR1:Hid (∀ x ∈ L,x.pre (w.alloc (.cells #[.int .u8 (b0:Nat),.int .u8 (b1:Nat),.int .u8 (b2:Nat),.int .u8 (b3:Nat),.int .u8 (b4:Nat),.int .u8 (b5:Nat),.int .u8 (b6:Nat),.int .u8 (b7:Nat),.int .u8 (b8:Nat),.int .u8 (b9:Nat)] 23))):=fun x hx => ⟨(HPR.out x hx).1,(HPR.out x hx).2.up hB⟩
  clear hl hl3 HPR
  go_enter Tryd.func3,Tryd.ntmps3
  go_upto_region 1 with fail
  generalize w.alloc (.cells #[.int .u8 (b0:Nat),.int .u8 (b1:Nat),.int .u8 (b2:Nat),.int .u8 (b3:Nat),.int .u8 (b4:Nat),.int .u8 (b5:Nat),.int .u8 (b6:Nat),.int .u8 (b7:Nat),.int .u8 (b8:Nat),.int .u8 (b9:Nat)] 23) = w1 at *
  go_wp2_with fail
  refine (small25_any w1 (TT.out.below hB)).mono ?_
  rintro e w2 ⟨rfl,hb⟩
  replace HB1:=Lib.hid (HB1.out.up hb)
  replace HL1:=Lib.hid (HL1.out.up hb)
  replace HPR1:Hid (∀ x ∈ L,x.pre w2):=fun x hx => ⟨(HPR1.out x hx).1,(HPR1.out x hx).2.up hb⟩
  replace hX:=hX.below hb hX.lt
  replace hB:=hB.trans (hb.mono hs)
  replace hs:=hB.size
  clear hb
  by_cases hbad:500 < n ∨ 50 < n2
  · have hb':500 < n ∨ (n ≤ 500 ∧ 50 < n2):=by omega
    clear hbad
    rcases hb' with hb | ⟨hb,hb2⟩
    · have q1:decide ((n:Int) > 500) = true:=decide_eq_true (by omega)
      go_wp2_with fail
      go_ret
      exact ⟨rfl,hB⟩
    · have q1:decide ((n:Int) > 500) = false:=decide_eq_false (by omega)
      have q2:decide ((n2:Int) > 50) = true:=decide_eq_true (by omega)
      go_wp2_with fail
      go_ret
      exact ⟨rfl,hB⟩
  have hn5:n ≤ 500:=by omega
  have hn2:n2 ≤ 50:=by omega
  clear hbad
  have q1:decide ((n:Int) > 500) = false:=decide_eq_false (by omega)
  have q2:decide ((n2:Int) > 50) = false:=decide_eq_false (by omega)
  go_wp2_with fail
  go_loopw [10] (fun iv wr => ∃ k:Nat,iv = .int .i64 k ∧ k ≤ n2 ∧ Hid (∀ j,j < k → (gAx L j).k ≤ 50) ∧ Below w2.heap.size w2 wr) (fun iv _ => n2 - (intOf iv).toNat)
  case atStart => exact ⟨0,rfl,by omega,fun j hj => by omega,Below.refl _ _⟩
  case round =>
    obtain ⟨k,rfl,hk,HQ,hC⟩:=hrel
    have hsc:=hC.size
    by_cases hkn:k < n2
    · obtain ⟨ad,rfl,hab,hca⟩:=(HL1.out.below hC).lst.axAt HLL.out hkn
      obtain ⟨x,hx⟩:∃ x,gAx L k = x:=⟨_,rfl⟩
      rw [hx] at hca
      have HX:=Lib.hid hx
      obtain ⟨T,hT⟩:∃ T,bs x.p.tx = T:=⟨_,rfl⟩
      have c_1:wr.cell? ⟨(ad.add (k * 24)).block,(ad.add (k * 24)).off + 1,none⟩ = some (.string T):=by rw [← add_two ad (k * 24) 1 (by decide),← hT]; exact hca 1 _ rfl
      have c_16:wr.cell? ⟨(ad.add (k * 24)).block,(ad.add (k * 24)).off + 16,none⟩ = some (.slice x.A x.k x.c):=by rw [← add_two ad (k * 24) 16 (by decide)]; exact hca 16 _ rfl
      clear hca hx hT
      have hw2:IntKind.i64.wrap ((k:Int) + 1) = (k:Int) + 1:=IntWalk.i64_in _ (by omega)
      by_cases ht2:(T.size:Int) > 200
      · have t1:decide ((T.size:Int) > 200) = true:=decide_eq_true ht2
        clear ht2
        go_wp2_with fail
        go_ret
        exact ⟨rfl,hB.trans (hC.mono hs)⟩
      · have t1:decide ((T.size:Int) > 200) = false:=decide_eq_false ht2
        clear ht2
        by_cases hx50:x.k ≤ 50
        · have t2:decide ((x.k:Int) > 50) = false:=decide_eq_false (by omega)
          have HQ2:Hid (∀ j,j < k + 1 → (gAx L j).k ≤ 50):=fun j hj => by
            by_cases e:j = k
            · subst e; rw [HX.out]; exact hx50
            · exact HQ.out j (by omega)
          clear hx50
          go_wp2_with fail
          go_roundw
          case rel => first | exact ⟨k + 1,by go_num,by omega,HQ2,hC⟩ | exact ⟨k + 1,by go_num,by omega,HQ2⟩
          case measure => simp [intOf]; omega
        · have t2:decide ((x.k:Int) > 50) = true:=decide_eq_true (by omega)
          clear hx50
          go_wp2_with fail
          go_ret
          exact ⟨rfl,hB.trans (hC.mono hs)⟩
    · obtain rfl:k = n2:=by omega
      have hok:∀ x ∈ L,x.ok wr:=fun x hx => by
        obtain ⟨j,hj,e⟩:=mem_gAx hx
        have h:=HQ.out j (by rw [← HLL.out]; exact hj)
        rw [e] at h
        exact ⟨(HPR1.out x hx).1,by omega,(HPR1.out x hx).2.up hC⟩
      have HOK:=Lib.hid hok
      replace HB1:=Lib.hid (HB1.out.up hC)
      replace HL1:=Lib.hid (HL1.out.up hC)
      replace hX:=hX.below hC hX.lt
      replace hB:=hB.trans (hC.mono hs)
      replace hs:=hB.size
      clear hC hsc HPR1 HQ hok hkn hk
      go_wp2_with fail
      refine (sacts_any A n c ns HNL.out (by omega) HBY.out wr (TT.out.below hB) HB1.out).mono ?_
      rintro e w4 ⟨v1,La,rfl,hI,hb⟩
      replace HB1:=Lib.hid (HB1.out.up hb)
      replace HL1:=Lib.hid (HL1.out.up hb)
      replace HOK:Hid (∀ x ∈ L,x.ok w4):=fun x hx => (HOK.out x hx).below hb
      replace hX:=hX.below hb hX.lt
      replace hB:=hB.trans (hb.mono hs)
      replace hs:=hB.size
      clear hb
      obtain ⟨m,hm⟩:∃ m,n / 10 = m:=⟨_,rfl⟩
      obtain ⟨r,hr⟩:∃ r,n % 10 = r:=⟨_,rfl⟩
      have hm9:m ≤ 50:=by omega
      have hown:=hI.own
      obtain ⟨Aa,ca,rfl⟩:=slice_of_own hown
      have hla:=hI.len
      have hra:=hI.rows
      have hsa:=Sl.of_own hown
      have hoa:∀ x ∈ La,x.ok w4:=fun x hx => (hI.ids x hx).ok
      have hka:∀ x ∈ La,x.k ≤ 1000:=fun x hx => by
        have h1:=(hI.ids x hx).1
        have h2:=acts_ids ns.length ns (Nat.le_refl _) x.p (by rw [← hra]; exact List.mem_map_of_mem hx)
        omega
      rw [hm] at hla hsa
      have HLA:=Lib.hid hla
      have HRA:=Lib.hid hra
      have HSA:=Lib.hid hsa
      have HOA:=Lib.hid hoa
      have HKA:=Lib.hid hka
      have HM:=Lib.hid hm
      have HR:=Lib.hid hr
      rw [hm,hr]
      clear hown hla hra hsa hoa hka hI hm hr
      go_wp2_with fail
      refine (r25acts_any A n c ns HNL.out (by omega) HBY.out w4 (TT.out.below hB) HB1.out).mono ?_
      rintro e w5 ⟨v2,Lc,rfl,hI,hb⟩
      replace HL1:=Lib.hid (HL1.out.up hb)
      replace HOK:Hid (∀ x ∈ L,x.ok w5):=fun x hx => (HOK.out x hx).below hb
      replace HSA:=Lib.hid (HSA.out.up hb)
      replace HOA:Hid (∀ x ∈ La,x.ok w5):=fun x hx => (HOA.out x hx).below hb
      replace hX:=hX.below hb hX.lt
      replace hB:=hB.trans (hb.mono hs)
      replace hs:=hB.size
      clear hb HB1
      have hown:=hI.own
      obtain ⟨Ac,cc,rfl⟩:=slice_of_own hown
      have hlc:=hI.len
      have hrc:=hI.rows
      have hsc:=Sl.of_own hown
      have hoc:∀ x ∈ Lc,x.ok w5:=fun x hx => (hI.ids x hx).ok
      rw [HM.out] at hlc hsc
      rw [HM.out,HR.out]
      have HLC:=Lib.hid hlc
      have HRC:=Lib.hid hrc
      have HSC:=Lib.hid hsc
      have HOC:=Lib.hid hoc
      clear hown hlc hrc hsc hoc hI
      obtain ⟨sb,hsb⟩:∃ b,decide (La.map Ax.p = L.map Ax.p) = b:=⟨_,rfl⟩
      obtain ⟨cn,hcn⟩:∃ b,cntF L d = b:=⟨_,rfl⟩
      have HSB:=Lib.hid hsb
      have HCN:=Lib.hid hcn
      have HAC:Hid (decide (La.map Ax.p = Lc.map Ax.p) = true):=by
        show decide (La.map Ax.p = Lc.map Ax.p) = true
        rw [HRA.out,HRC.out]
        exact decide_eq_true rfl
      clear hsb hcn
      have HA:=Lib.hid (fun d os => HSA.out.up (below_regrown w5 d os))
      have HC:=Lib.hid (fun d os => HSC.out.up (below_regrown w5 d os))
      have HL:=Lib.hid (fun d os => HL1.out.up (below_regrown w5 d os))
      have HKA2:=Lib.hid (fun d os => fun (x:Ax) (hx:x ∈ La) => (HOA.out x hx).below (below_regrown w5 d os))
      have HKC2:=Lib.hid (fun d os => fun (x:Ax) (hx:x ∈ Lc) => (HOC.out x hx).below (below_regrown w5 d os))
      have HKL2:=Lib.hid (fun d os => fun (x:Ax) (hx:x ∈ L) => (HOK.out x hx).below (below_regrown w5 d os))
      clear HOK HOA HOC HSA HSC HL1
      have x0:w5.cell? ⟨w.heap.size,0,none⟩ = some (.int .u8 (b0:Nat)):=hX.cell 0
      have x1:w5.cell? ⟨w.heap.size,1,none⟩ = some (.int .u8 (b1:Nat)):=hX.cell 1
      have x2:w5.cell? ⟨w.heap.size,2,none⟩ = some (.int .u8 (b2:Nat)):=hX.cell 2
      have x3:w5.cell? ⟨w.heap.size,3,none⟩ = some (.int .u8 (b3:Nat)):=hX.cell 3
      have x4:w5.cell? ⟨w.heap.size,4,none⟩ = some (.int .u8 (b4:Nat)):=hX.cell 4
      have x5:w5.cell? ⟨w.heap.size,5,none⟩ = some (.int .u8 (b5:Nat)):=hX.cell 5
      have x6:w5.cell? ⟨w.heap.size,6,none⟩ = some (.int .u8 (b6:Nat)):=hX.cell 6
      have x7:w5.cell? ⟨w.heap.size,7,none⟩ = some (.int .u8 (b7:Nat)):=hX.cell 7
      have x8:w5.cell? ⟨w.heap.size,8,none⟩ = some (.int .u8 (b8:Nat)):=hX.cell 8
      have x9:w5.cell? ⟨w.heap.size,9,none⟩ = some (.int .u8 (b9:Nat)):=hX.cell 9
      have lt_x:=hX.lt
      have hEQ:∀ w0,(binOp .eql 31 (.agg #[.int .i64 D.op,.int .i64 D.kd,.int .i64 D.id,.int .i64 D.fr,.int .i64 D.tn,.int .i64 D.st,.int .i64 D.en,.int .i64 D.rt,.int .i64 D.rf,.int .i64 D.rn,.int .i64 D.rs,.int .i64 D.re,.int .i64 D.ro]) (.agg #[.int .i64 D.op,.int .i64 D.kd,.int .i64 D.id,.int .i64 D.fr,.int .i64 D.tn,.int .i64 D.st,.int .i64 D.en,.int .i64 D.rt,.int .i64 D.rf,.int .i64 D.rn,.int .i64 D.rs,.int .i64 D.re,.int .i64 D.ro])).run Tryd.prog w0 = .ok (.bool true) w0:=fun w0 => by rw [eqlDr]; simp
      have hBB:∀ w0,(binOp .eql 4 (.bool sb) (.bool sb)).run Tryd.prog w0 = .ok (.bool true) w0:=fun w0 => by cases sb <;> rfl
      have hRR:((r:Int) == (r:Int)) = true:=by simp
      have hCC:((cn:Int) == (cn:Int)) = true:=by simp
      have q_x0:=fun d os => cell_regrown x0 d os
      have q_x1:=fun d os => cell_regrown x1 d os
      have q_x2:=fun d os => cell_regrown x2 d os
      have q_x3:=fun d os => cell_regrown x3 d os
      have q_x4:=fun d os => cell_regrown x4 d os
      have q_x5:=fun d os => cell_regrown x5 d os
      have q_x6:=fun d os => cell_regrown x6 d os
      have q_x7:=fun d os => cell_regrown x7 d os
      have q_x8:=fun d os => cell_regrown x8 d os
      have q_x9:=fun d os => cell_regrown x9 d os
      go_upto_region 11 with fail
      try simp only [List.append]
      first | refine wp_region_text_below ?_ | refine wp_region_quiet_below (by kernel_rfl) (by kernel_rfl) ?_
      repeat (go_big_quiet_step ((first | (go_at_call 9; first | with_reducible exact Calls.regrown_of (r25same_any Aa Ac m ca m cc La Lc _ HLA.out HLC.out (by omega) (by omega) (HA.out _ _) (HC.out _ _) (HKA2.out _ _) (HKC2.out _ _) HKA.out _ HAC.out) | with_reducible exact Calls.regrown_of (r25same_any Aa A2 m ca k c2 La L _ HLA.out HLL.out (by omega) (by omega) (HA.out _ _) (HL.out _ _) (HKA2.out _ _) (HKL2.out _ _) HKA.out _ HSB.out)) | (go_at_call 10; with_reducible exact Calls.regrown_of (sdir_any b0 b1 b2 b3 b4 b5 b6 b7 b8 b9 _ H0.out H1.out H2.out H3.out H4.out H5.out H6.out H7.out H8.out H9.out D HD.out)) | (go_at_call 11; with_reducible exact Calls.regrown_of (r25dir_any b0 b1 b2 b3 b4 b5 b6 b7 b8 b9 _ H0.out H1.out H2.out H3.out H4.out H5.out H6.out H7.out H8.out H9.out D HD.out)) | (go_at_call 12; with_reducible exact Calls.regrown_of (ssame_any Aa A2 m ca k c2 La L _ HLA.out HLL.out (by omega) (by omega) (HA.out _ _) (HL.out _ _) (HKA2.out _ _) (HKL2.out _ _) _ HSB.out)) | (go_at_call 13; with_reducible exact Calls.regrown_of (scountv A2 k c2 L d cn _ HLL.out (by omega) (HL.out _ _) HCN.out)) | (go_at_call 14; with_reducible exact Calls.regrown_of (r25countv A2 k c2 L d cn _ HLL.out (by omega) (HL.out _ _) HCN.out)))))
      refine wpQuiet_nil ?_
      intro _ hqw
      obtain ⟨pq,hqw⟩:=hqw
      subst hqw
      go_wp2_with fail
      go_ret
      exact ⟨rfl,hB.trans ((below_regrown _ _ _).mono hs)⟩
theorem scriptTells_own:ownKnob Tryd.prog.godebug = none:=by kernel_rfl
theorem scriptTells_laidOut:laidOutB Tryd.prog = true:=by kernel_rfl
theorem scriptTells_door (os:Os) (args:Array Value):laidMetH Tryd.prog Rows.scriptTellsRow.laid ((World.doorLaid Tryd.prog 400 os).forCall (fun _ _ => 0) ⟨#[],args,[]⟩).memory:=
  laidMetH_of_parts3 (fuel:=8) (laidMet_of_run' 8 (by kernel_rfl) (by kernel_rfl)) (by kernel_rfl) (by kernel_rfl)

set_option maxHeartbeats 1000000 in
set_option maxRecDepth 100000 in
theorem scriptTells_lifted (os:Os) (started:os.Started) (H:Type) (enc:TypeId × Value → H) :
    ReturnsInHanded {} Tryd.checked os 3 .any (fun w args => (Rows.scriptTellsSpec.pre enc Tryd.prog Tryd.f3 [] false w args ∧ laidMetH Tryd.prog Rows.scriptTellsRow.laid w) ∧ sizedMet enc Tryd.prog Tryd.f3 (OpenSpec.ofChange Rows.scriptTellsSpec) false w args)
      (Rows.scriptTellsSpec.post enc Tryd.prog Tryd.f3 false true false false):=by
  refine returnsInHanded_of_change_and (C:=Tryd.checked) (X:=fun w _ => laidMetH Tryd.prog Rows.scriptTellsRow.laid w) (fun _ _ _ hh h => h.of_heap hh) scriptTells_own started (by kernel_rfl) Tryd.func3
    (ChangeSpec.witness_shaped (enc:=enc) (C:=Tryd.checked) (os:=os) (X:=fun w _ => laidMetH Tryd.prog Rows.scriptTellsRow.laid w) false (World.doorLaid Tryd.prog 400 os) #[.slice none 0 0,.agg #[.int .u8 0,.int .u8 0,.int .u8 0,.int .u8 0,.int .u8 0,.int .u8 0,.int .u8 0,.int .u8 0,.int .u8 0,.int .u8 0],.slice none 0 0,.int .i64 0] 8 rfl (World.shaped_of_RefB (by kernel_rfl) (by kernel_rfl)) (by kernel_rfl) (by kernel_rfl) (by kernel_rfl) (scriptTells_door os _)) ?_
  intro W base args ds gs before hval0 hW _ _ hL _
  have hval:∀ (j:Nat) t v,Tryd.f3.params[j]? = some t → args[j]? = some v → Value.okWide Tryd.prog W .any base t v:=hval0
  have hW':=hW
  obtain ⟨p,q,hA0,hV,rfl,hfz,hnd⟩:=hW
  have hA:DataW.TrodAll enc Tryd.prog W 0 (fun _ => true) true Tryd.f3.params.toList args.toList ds p:=hA0
  rw [Tryd.params3] at hA hval
  obtain ⟨v0,vs0,d0,ds0,p0,q0,hargs,rfl,rfl,h0,r0⟩:=trodAll_cons hA
  obtain ⟨v1,vs1,d1,ds1,p1,q1,rfl,rfl,rfl,h1,r1⟩:=trodAll_cons r0
  obtain ⟨v2,vs2,d2,ds2,p2,q2,rfl,rfl,rfl,h2,r2⟩:=trodAll_cons r1
  obtain ⟨v3,vs3,d3,ds3,p3,q3,rfl,rfl,rfl,h3,r3⟩:=trodAll_cons r2
  obtain ⟨rfl,rfl,rfl⟩:=trodAll_nil r3
  obtain rfl:args = #[v0,v1,v2,v3]:=by cases args; simp_all
  obtain ⟨rfl,rfl⟩:=trodVars_none hV
  obtain ⟨A0,n0,c0,ns0,rfl,hl0,nl0,w0⟩:=open_bytesS Tryd.underlying22 Tryd.underlying5 (by kernel_rfl) (hval 0 22 v0 rfl rfl) h0
  obtain ⟨ns1,e1,l1,w1⟩:=open_arrB (k:=10) Tryd.underlying23 Tryd.underlying5 (by kernel_rfl) (by kernel_rfl) (hval 1 23 v1 rfl rfl) h1
  obtain ⟨b1_0,b1_1,b1_2,b1_3,b1_4,b1_5,b1_6,b1_7,b1_8,b1_9,rfl⟩:∃ b1_0 b1_1 b1_2 b1_3 b1_4 b1_5 b1_6 b1_7 b1_8 b1_9:Nat,ns1 = [b1_0,b1_1,b1_2,b1_3,b1_4,b1_5,b1_6,b1_7,b1_8,b1_9]:=by
    match ns1,l1 with
    | [b1_0,b1_1,b1_2,b1_3,b1_4,b1_5,b1_6,b1_7,b1_8,b1_9],_ => exact ⟨_,_,_,_,_,_,_,_,_,_,rfl⟩
  obtain rfl:v1 = .agg #[.int .u8 (b1_0:Nat),.int .u8 (b1_1:Nat),.int .u8 (b1_2:Nat),.int .u8 (b1_3:Nat),.int .u8 (b1_4:Nat),.int .u8 (b1_5:Nat),.int .u8 (b1_6:Nat),.int .u8 (b1_7:Nat),.int .u8 (b1_8:Nat),.int .u8 (b1_9:Nat)]:=e1
  obtain ⟨A2,n2,c2,css2,rfl,hl2,nl2,w2⟩:=open_mix 4 (K:=24) (ks:=ksAct) Tryd.underlying24 (by kernel_rfl) (by kernel_rfl) (by omega) (hval 2 24 v2 rfl rfl) h2
  obtain ⟨a3,rfl,rfl,rfl,w3⟩:=open_int Tryd.underlying3 (hval 3 3 v3 rfl rfl) h3
  clear hA0 hval0
  refine (scriptTells_walk A0 n0 c0 ns0 b1_0 b1_1 b1_2 b1_3 b1_4 b1_5 b1_6 b1_7 b1_8 b1_9 A2 n2 c2 css2 a3 nl0 w0 w1 nl2 w3 W (ten_tells hL) hl0 ⟨hl2,w2⟩).mono fun e W' ⟨he,bel⟩ => ?_
  subst he
  exact ⟨_,rfl,law_post scriptTells_laidOut (by kernel_rfl) rfl Tryd.underlying4 rfl rfl hW' bel⟩

theorem scriptTells_holds:Rows.ScriptTellsSaid:=
  OpenClaim.holds_of_wide 3 Tryd.f3 rfl rfl rfl rfl rfl rfl rfl ⟨rfl,rfl,rfl,rfl,rfl⟩ rfl rfl rfl rfl rfl (by kernel_rfl) Tryd.func3 (by kernel_rfl)
    (of_decide_eq_true (by kernel_rfl)) (by unfold Func.isWrapper; first | (rw [if_pos (by decide +kernel)]; kernel_rfl) | (rw [if_neg (by decide +kernel)]; exact ⟨rfl,rfl⟩))
    (fun os started H enc _ => scriptTells_lifted os started H enc)

theorem scriptTells_proved:Rows.ScriptTellsCardSaid:=
  Claim7.holds_tied_plain_at .later [] Rows.scriptTellsCard.laidKinds true Rows.scriptTellsCard.stood.harness false
    scriptTells_holds (fun _ h => by cases h) (by kernel_rfl) (fun _ h => by cases h) scriptTells_row_tie rfl ⟨rfl,rfl⟩ (by kernel_rfl) rfl
    (fun f fn hf hfn => by
      obtain rfl : f = 3 := Option.some.inj ((show Tryd.prog.funcNamed "felucca/feluccalaw25.ScriptTells" = some 3 by kernel_rfl).symm.trans hf) |>.symm
      obtain rfl:fn = Tryd.f3:=(Option.some.inj (Tryd.func3.symm.trans hfn)).symm
      exact ⟨by kernel_rfl,fun j t ht => by
        rw [Tryd.params3] at ht
        have hm:t ∈ [22,23,24,3]:=by simpa using Array.mem_of_getElem? ht
        have hall:([22,23,24,3].all fun u => !Tryd.prog.wantsStandIn u) = true:=by kernel_rfl
        exact (show Tryd.prog.wantsStandIn t = false by simpa using List.all_eq_true.1 hall t hm)⟩)
    (by kernel_rfl)
#print axioms scriptTells_proved
end Go.Proofs.YtggdomeeienjbaaDoor
