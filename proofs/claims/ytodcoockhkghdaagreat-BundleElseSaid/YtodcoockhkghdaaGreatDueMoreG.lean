/- due.Table's More and Fewest: what stands beside the table stays (made by gendueg.py from their templates). -/
import Derived.Test.YtodcoockhkghdaaGreatGQ18
import Derived.Test.YtodcoockhkghdaaGreatDueAhead
import Derived.Test.YtodcoockhkghdaaGreatGQ16
import Derived.Test.YtodcoockhkghdaaGreatGQ17
import Derived.Deep.CutBlock
import Derived.Deep.DeepCutAuto
import Derived.Deep.LoopGhost
namespace Go.Proofs.YtodcoockhkghdaaGreat
open Go.ChangeShapes Go.WideShapes Go.ChangeAt Go.RowKit Go.Sort Go.Maps Hp
set_option linter.unusedSimpArgs false
set_option linter.unusedVariables false
set_option maxHeartbeats 8000000 in
set_option maxRecDepth 100000 in
theorem dmoreG_any {wg:World} {gk:Nat} {w0 w:World} {tb:Nat} {A:Option Addr} {n c:Nat} {l:List Ed} {q by_ size:Int} {sh:List Int} {h:Nat} (t:TabHG wg gk w0 w tb A n c l q by_ size sh h) (hh:h ≤ 5000) (hd:l.length = n) (hn:n ≤ 1000) (hre:rightE l = true) (hq:1 ≤ q ∧ q ≤ 255) (b:Bool) (hb:b = false ↔ lateL l size (opn sh q) q by_ (h + 1) = lateL l size (opn sh q) q by_ h) :
  Calls Tryz.prog 111 #[.pointer (some ⟨tb,0,none⟩)] w fun e w' => e = .returned (.bool b) ∧ TabHG wg gk w0 w' tb A n c l q by_ size sh (h + 1):=by
 have HTH:=Lib.hid t
 have HBQ:=Lib.hid hb
 clear hb
 have HT:Hid (∀ w',Below w.heap.size w w' → TabHG wg gk w0 w' tb A n c l q by_ size sh h):=fun w' hb => t.below hb
 obtain ⟨w1,pb,ub,sb,nm,ct,P,cs,vf,F,hdc,ht,hS,hC,hF,hF3,hF2,hP,hnm⟩:=t
 obtain ⟨Af,cf,rfl⟩:=slice_of_own ht.fr
 obtain ⟨nF,hnF⟩:∃ z,F.length = z:=⟨_,rfl⟩
 rw [hnF] at ht hF2
 have HTB:Hid (∀ w',Below w.heap.size w w' → TBG wg gk w1 w' tb pb ub A n c q size h sb nm P cs (.slice Af nF cf) F):=fun w' hb => ht.below hb
 have HFS:Hid (∀ w',Below w.heap.size w w' → Sl w' w'.heap.size 1 Af nF cf (F.map (Value.int .i64))):=fun w' hb => by
  have h:=(HTB.out _ hb).fr
  rw [hnF] at h
  exact Sl.of_own h
 have htl:=ht.box.lt
 have hsl:=MapV.lt ht.sm.map
 have hlow:=ht.sm.low
 have hmk:=run_makeMap0 (P:=Tryz.prog) 152 3 3 Tryz.underlying152 w
 have hM0:=MapT.made w
 have hb0:Below w.heap.size w (w.alloc (.map #[] 0)):=(Below.refl _ _).alloc (Nat.le_refl _) _
 have HNF:=Lib.hid hnF
 have HD:=Lib.hid hd
 have HRE:=Lib.hid hre
 have HDC:=Lib.hid hdc
 have HSt:=Lib.hid hS
 have HCv:=Lib.hid hC
 have HF:=Lib.hid hF
 have HF3:=Lib.hid hF3
 have HP:=Lib.hid hP
 clear hnF hd hre hdc hS hC hF hF3 hP ht
 go_enter Tryz.func111,Tryz.ntmps111
 go_upto_region 2 with fail
 clear hmk
 generalize w.alloc (.map #[] 0) = w2 at *
 have hbx:=(HTB.out _ hb0).box
 have t7:w2.cell? ⟨tb,7,none⟩ = some (.slice Af nF cf):=hbx.cell 7
 have lt_t:=hbx.lt
 clear hbx
 go_wp2_with fail
 clear t7 lt_t
 go_loopw [14] (fun iv wr => ∃ (j nml:Nat) (L:Int → Option Int),iv = .int .i64 j ∧ j ≤ nF ∧ MapT wr w.heap.size nml L ∧ nml ≤ j * 1000 ∧ Hid (Later l size (opn sh q) q (lateL l size (opn sh q) q by_ h) (F.take j) L) ∧ Below w.heap.size w wr) (fun iv _ => nF - (intOf iv).toNat)
 case atStart => exact ⟨0,0,fun _ => none,rfl,by omega,hM0,by omega,Later.start,hb0⟩
 case round =>
  clear hM0 hb0 w2
  obtain ⟨j,nml,L,rfl,hj,hM,hnml,HL,hB⟩:=hrel
  by_cases hjn:j < nF
  ·obtain ⟨ad,rfl,hab,c0⟩:=(HFS.out _ hB).lst.atI HNF.out hjn
   have hjl:j < F.length:=by rw [HNF.out]; exact hjn
   have htk:F.take (j + 1) = F.take j ++ [F.getD j 0]:=by
    rw [List.take_succ_eq_append_getElem hjl,List.getD_eq_getElem?_getD,List.getElem?_eq_getElem hjl]; rfl
   have hmx:F.getD j 0 ∈ F:=by
    rw [List.getD_eq_getElem?_getD,List.getElem?_eq_getElem hjl]; exact List.getElem_mem _
   obtain ⟨x,hx⟩:∃ x,F.getD j 0 = x:=⟨_,rfl⟩
   rw [hx] at c0 htk hmx
   have hxr:=HF.out x hmx
   have HXS:=Lib.hid (HF3.out x hmx)
   have hxw:(Lit.int .i64 x).wf = true:=wfI (by omega)
   have HTK:=Lib.hid htk
   obtain ⟨ob,hob⟩:∃ b,opn sh q x = b:=⟨_,rfl⟩
   have HOB:=Lib.hid hob
   clear hx htk hmx hjl hob
   go_wp2_with fail
   clear c0 hab
   refine (dopen_any (HT.out _ hB).tab x hxw ob HOB.out).mono ?_
   rintro e w3 ⟨rfl,hb⟩
   replace hB:=hB.trans (hb.mono hB.size)
   replace hM:=MapV.below hM hb
   clear hb
   cases ob with
   | false =>
    have HL2:Hid (Later l size (opn sh q) q (lateL l size (opn sh q) q by_ h) (F.take (j + 1)) L):=by
     show Later l size (opn sh q) q (lateL l size (opn sh q) q by_ h) (F.take (j + 1)) L
     rw [HTK.out]; exact HL.out.shut HOB.out
    go_wp2_with fail
    go_roundw
    case rel => exact ⟨j + 1,nml,L,by go_num,by omega,hM,by omega,HL2,hB⟩
    case measure => simp [intOf]; omega
   | true =>
    go_wp2_with fail
    refine (dahead_any HTH.out.tab (by omega) HD.out hn HRE.out x hxr HXS.out HOB.out w.heap.size nml L (F.take j) w3 hB (Nat.le_refl _) hM (by omega) HL.out).mono ?_
    rintro e w4 ⟨rfl,nml',L',hM4,hn4,hL4,hB4⟩
    rw [← HTK.out] at hL4
    have HL4:=Lib.hid hL4
    clear hL4 hM hB HL
    go_wp2_with fail
    go_roundw
    case rel => exact ⟨j + 1,nml',L',by go_num,by omega,hM4,by omega,HL4,hB4⟩
    case measure => simp [intOf]; omega
  ·obtain rfl:j = nF:=by omega
   have hLF:Later l size (opn sh q) q (lateL l size (opn sh q) q by_ h) F L:=by
    have h:=HL.out
    rw [List.take_of_length_le (by rw [HNF.out]; exact Nat.le_refl _)] at h
    exact h
   have HLF:=Lib.hid hLF
   have htb:=HTB.out _ hB
   have t5:wr.cell? ⟨tb,5,none⟩ = some (.int .i64 (h:Int)):=htb.box.cell 5
   have t7:wr.cell? ⟨tb,7,none⟩ = some (.slice Af j cf):=htb.box.cell 7
   have f5:=htb.box.free 5
   have f7:=htb.box.free 7
   have lt_t:=htb.box.lt
   have hw1:IntKind.i64.wrap ((h:Int) + 1) = (h:Int) + 1:=IntWalk.i64_in _ (by omega)
   have tS:=htb.count (.int .i64 ((h:Int) + 1)) (by simp)
   have hMS:=MapV.keptS hM (Kept.set (S:=fun k => k = tb) (Kept.set (S:=fun k => k = tb) (Kept.refl _ _) (fun _ => rfl) 5 (.int .i64 ((h:Int) + 1))) (fun _ => rfl) 7 (.slice none 0 0)) (by omega)
   have hszS:w.heap.size < ((wr.setCell ⟨tb,5,none⟩ (.int .i64 ((h:Int) + 1))).setCell ⟨tb,7,none⟩ (.slice none 0 0)).heap.size:=MapV.lt hMS
   have HTS:=Lib.hid tS
   have HMS:=Lib.hid hMS
   clear hLF htb tS hMS HL hM hB
   go_upto_region 10 with fail
   clear t5 t7 f5 f7 lt_t hw1
   generalize (wr.setCell ⟨tb,5,none⟩ (.int .i64 ((h:Int) + 1))).setCell ⟨tb,7,none⟩ (.slice none 0 0) = ws at *
   clear wr
   obtain ⟨rB,hrB⟩:∃ z,ws.heap.size = z:=⟨_,rfl⟩
   go_wp2_with (at_range; refine wpList_range_mapV rfl _ _ rfl 3 Tryz.underlying152 w.heap.size nml (tabS L) rfl HMS.out ?_; intro wR lf0 cnt0 hrg0 hlf0 hgr0 hsz0)
   go_frame
   have HGR:Hid (gk < rB):=by have h:=HTS.out.gu.in_; show gk < rB; omega
   rw [hrB] at hrg0 hszS ⊢
   have tR:=HTS.out.below (below_none hgr0)
   have HH0:=Lib.hid (Half.start (P:=P) (L:=L) (h:=h) hlf0)
   clear HTS HMS hgr0 hsz0 hlf0 hrB ws
   go_loopw [6] (fun _ wr => ∃ (lf:Lit → Bool) (cnt nm':Nat) (P':Int → List (Int × Int)) (cs':Int → Value) (vf':Value) (F':List Int),RngV wr w.heap.size rB nml (tabS L) lf cnt ∧ TBG wg gk w1 wr tb pb ub A n c q size (h + 1) sb nm' P' cs' vf' F' ∧ Hid (Half P L h lf P' F') ∧ Hid (nm' = nm + F'.length)) (fun _ wr => wr.rangeLeft w.heap.size rB)
   case atStart => exact ⟨lf0,cnt0,nm,P,cs,.slice none 0 0,[],hrg0,tR,HH0,rfl⟩
   case round =>
    clear hrg0 tR HH0
    obtain ⟨lf,cnt,nm',P',cs',vf',F',hrg,tt,HH,HN⟩:=hrel
    go_wp2_with (at_next; refine wpList_next_mapV rfl _ rfl w.heap.size rB nml (tabS L) lf cnt rfl hrg ?_ ?_)
    ·intro hl0
     obtain ⟨hP',hF'⟩:=HH.out.done hl0
     obtain ⟨ql,hlen,hql⟩:=MapV.len2 hrg.map Tryz.underlying152
     have hlenT:=hlen
     have hst:=HLF.out.step HCv.out
     have hov:lateL l size (opn sh q) q by_ (h + 1) = overT (lateL l size (opn sh q) q by_ h) L:=(lateL_step h).one hst
     have hFr:∀ x ∈ F',1 ≤ x ∧ x ≤ 255:=fun x hx => by
      obtain ⟨a,ha⟩:=Option.isSome_iff_exists.1 ((hF' x).1 hx)
      exact lateL_node HRE.out hq (h + 1) x a (by rw [hov]; exact overT_some ha)
     have hF5:=few_nodes HH.out.nd hFr
     have hnm':=HN.out
     have HTAB:Hid (TabHG wg gk w0 wr tb A n c l q by_ size sh (h + 1)):=by
      refine ⟨w1,pb,ub,sb,nm',ct,P',cs',vf',F',HDC.out,tt,steps_next HSt.out hov hP',?_,hFr,fun x hx => ?_,hF5,fun x => ?_,by omega⟩
      ·rw [hov]
       exact HLF.out.cov HCv.out (fun x hx => (hF' x).2 hx)
      ·obtain ⟨a,ha⟩:=Option.isSome_iff_exists.1 ((hF' x).1 hx)
       rw [hov,overT_some ha]; rfl
      ·rw [hP' x]
       have:=HP.out x
       cases L x with
       | none => simp only; omega
       | some a => simp only [List.length_append,List.length_singleton]; omega
     have HB:Hid (decide (0 < ql) = false ↔ lateL l size (opn sh q) q by_ (h + 1) = lateL l size (opn sh q) q by_ h):=by
      show decide (0 < ql) = false ↔ _
      rw [hov]
      constructor
      ·intro h0
       have h1:¬ 0 < ql:=of_decide_eq_false h0
       refine overT_empty fun x => ?_
       cases hL:L x with
       | none => rfl
       | some a => exact absurd (hql.2 ⟨.int .i64 x,isKeyI x,by show ((L x).map (Value.int .i64)).isSome = true; rw [hL]; rfl⟩) h1
      ·intro h0
       refine decide_eq_false fun h1 => ?_
       obtain ⟨kl,hk,hs⟩:=hql.1 h1
       have h2:=HLF.out.empty h0
       unfold tabS at hs
       split at hs
       ·rename_i x; rw [h2 x] at hs; cases hs
       ·cases hs
     have hb:decide (0 < ql) = b:=by
      have h1:=HB.out.trans HBQ.out.symm
      cases b <;> cases hd:decide (0 < ql) <;> simp [hd] at h1 <;> rfl
     have hbI:decide ((0:Int) < (ql:Int)) = b:=by rw [← hb]; simp
     clear hP' hF' hql hst hov hFr hF5 hnm' HB hlenT HH HN hrg tt
     cases b
     all_goals
      go_wp2_with fail
      go_ret
      exact ⟨rfl,HTAB.out⟩
    ·intro x v w3 cnt1 hwx hlx hSx hrg1 hlt hg1 hs1 hen
     obtain ⟨a,ha⟩:∃ a,L x = some a:=by
      have h1:((L x).map (Value.int .i64)) = some v:=hSx
      cases hL:L x with
      | none => rw [hL] at h1; cases h1
      | some a => exact ⟨a,rfl⟩
     obtain rfl:v = .int .i64 a:=by
      have h1:((L x).map (Value.int .i64)) = some v:=hSx
      rw [ha] at h1
      injection h1 with h1
      exact h1.symm
     obtain ⟨hPx,hHN⟩:=HH.out.step hlx ha
     have HHN:=Lib.hid hHN
     obtain ⟨⟨es0,ck0,hbm⟩,s0,seen0,cc0,hbi⟩:=hrg.blocks
     have hsbI:sb ≠ rB:=by
      obtain ⟨D,⟨es,clock,g1,_⟩,_⟩:=tt.sm.map
      intro e
      rw [e,hbi] at g1
      cases g1
     have hrlt:=hrg.lt
     have hlbr:w.heap.size ≠ rB:=by
      intro e
      rw [e] at hbm
      rw [hbi] at hbm
      cases hbm
     have t3:=tt.keptS (Kept.of_grown hg1 (S:=fun k => k = rB) (fun k hk _ => by injection hk with hk; exact hk.symm)) (fun k hk e => by omega) hsbI (fun y k hy e => own_not_iter (tt.sm.row y) hbi (by rw [hy,e])) (fun k hk e => own_not_iter tt.fr hbi (by rw [hk,e])) (fun e => by have:=HGR.out; omega)
     have hm3:=t3.sm.map
     have hlk:=(t3.below (w':=w3.drew) ((Below.refl _ _).drew)).sm.look hwx
     have hlk2:=(t3.below (w':=(w3.alloc (.cells #[.int .i64 ((h:Int) + 1),.int .i64 a] (159:Nat))).drew) (((Below.refl _ _).alloc (Nat.le_refl _) _).drew)).sm.look hwx
     have hrow:=t3.sm.row x
     have hnx:(P' x).length ≤ 5001:=by rw [hPx]; have:=HP.out x; omega
     have hF255:F'.length ≤ 255:=few_nodes HH.out.nd (fun y hy => by
       obtain ⟨b,hb⟩:=Option.isSome_iff_exists.1 ((HH.out.mem y).1 hy).1
       have hov:lateL l size (opn sh q) q by_ (h + 1) = overT (lateL l size (opn sh q) q by_ h) L:=(lateL_step h).one (HLF.out.step HCv.out)
       exact lateL_node HRE.out hq (h + 1) y b (by rw [hov]; exact overT_some hb))
     have hnmb:nm' < maxLen:=by
      have h1:=HN.out
      unfold maxLen
      omega
     obtain ⟨vr,hvr⟩:∃ v,cs' x = v:=⟨_,rfl⟩
     obtain ⟨R,hR⟩:∃ r,P' x = r:=⟨_,rfl⟩
     have hown0:=hrow
     rw [hvr] at hlk hlk2 hrow
     rw [hR] at hrow hnx
     obtain ⟨nr,hnr⟩:∃ z,R.length = z:=⟨_,rfl⟩
     rw [hnr] at hrow hnx
     obtain ⟨Ar,cr,rfl⟩:=slice_of_own hrow
     have HVR:=Lib.hid hvr
     have HR:=Lib.hid hR
     have HNR:=Lib.hid hnr
     obtain ⟨bI1,bI2⟩:=hrg1.blocks
     have HBI1:=Lib.hid bI1
     have HBI2:=Lib.hid bI2
     have t5:w3.cell? ⟨tb,5,none⟩ = some (.int .i64 ((h:Int) + 1)):=by have:=t3.box.cell 5; simpa using this
     have t6:w3.cell? ⟨tb,6,none⟩ = some (.map (some sb)):=t3.box.cell 6
     have lt_t:=t3.box.lt
     have HT3:=Lib.hid t3
     have HROW:=Lib.hid hrow
     have HRG:=Lib.hid hrg1
     have HM3:=Lib.hid hm3
     have HCNT:=Lib.hid hlt
     have HLE:=Lib.hid hrg.left_eq
     have HSBI:=Lib.hid hsbI
     have HLBR:=Lib.hid hlbr
     have HF255:=Lib.hid hF255
     clear hF255
     obtain ⟨i0,hi0,hz0,hz1,hz2⟩:=info_parts infoSt
     have htl3:=t3.box.lt
     clear hSx ha hPx hHN hbm hbi hsbI hlbr t3 hm3 hrow hown0 hvr hR hnr hrg1 hlt hrg hg1 hs1 tt bI1 bI2 hlx HH
     go_upto_region 13 with fail
     clear hen
     go_cut [] (fun wx => ∃ v1,TBG wg gk w1 wx tb pb ub A n c q size (h + 1) sb (nm' + 1) (updP P' x (P' x ++ [((h:Int) + 1,a)])) (updC cs' x v1) vf' F' ∧ RngV wx w.heap.size rB nml (tabS L) (fun z => lf z && !z.sameKey (.int .i64 x)) cnt1)
     case first =>
      go_region_law (refine step_append_own rfl (.tmp 53) (.tmp 60) 160 rfl (tb + 1) 159 i0 _ 2 16 Tryz.underlying160 hi0 hz0 hz1 hz2 rfl (by decide) (.slice Ar nr cr) nr (flat2 R) rfl (HROW.out.alloc _) ⟨w3.heap.size,0,none⟩ 1 1 [.int .i64 ((h:Int) + 1),.int .i64 a] rfl rfl (by exact lit_cells _ #[.int .i64 ((h:Int) + 1),.int .i64 a] _ _ (by simp)) (by simp [Value.oneCell']) (by unfold maxLen; omega) (by omega) (by simp; omega) ?_; intro v1 wA hownA hgA hnA hlA; clear hnA; obtain ⟨A1,q1,rfl⟩:=slice_of_own hownA; have hbA:=Blok.over HT3.out.box hgA (fun e => by have:=(HROW.out.lt _ e).1; omega) (by (repeat (first | exact Below.refl _ _ | refine Below.alloc ?_ (by first | omega | (simp; done) | (simp; omega)) _ | refine Below.setCell ?_ (by first | omega | (simp; done) | (simp; omega)) _ | refine Below.drew ?_))); have tA6:wA.cell? ⟨tb,6,none⟩ = some (.map (some sb)):=hbA.cell 6; have tA5:wA.cell? ⟨tb,5,none⟩ = some (.int .i64 ((h:Int) + 1)):=(hbA.cell 5).trans ((HT3.out.box.cell 5).symm.trans t5); have ltA:=hbA.lt; clear hbA; have hmA:=MapV.kept (MapV.drew (MapV.alloc HM3.out _)) hgA (fun e => by have h1:=HT3.out.sm.mo x; rw [HVR.out] at h1; exact h1 e.symm); obtain ⟨w5,hput,hM5,hg5⟩:=MapV.put hmA keyedV Tryz.underlying155 hnmb (keyI x hwx) (isKeyI x) (.slice A1 (nr + 1) q1); have HM5:=Lib.hid hM5; have HG5:=Lib.hid hg5; have HGA:=Lib.hid hgA; have HOA:=Lib.hid hownA; have HLA:=Lib.hid hlA; clear hmA hM5 hg5 hgA hownA hlA)
      all_goals
       have hw:Below w3.heap.size w3 ((w3.alloc (.cells #[.int .i64 ((h:Int) + 1),.int .i64 a] 159)).drew):=by (repeat (first | exact Below.refl _ _ | refine Below.alloc ?_ (by first | omega | (simp; done) | (simp; omega)) _ | refine Below.setCell ?_ (by first | omega | (simp; done) | (simp; omega)) _ | refine Below.drew ?_))
       have hbl:(Value.slice A1 (nr + 1) q1).ownBlock = (cs' x).ownBlock ∨ ∃ k,w3.heap.size ≤ k ∧ (Value.slice A1 (nr + 1) q1).ownBlock = some k:=by
        rw [HVR.out]
        rcases HLA.out with e | e
        ·exact .inl e
        ·exact .inr ⟨_,hw.size,e⟩
       have hg':((w3.alloc (.cells #[.int .i64 ((h:Int) + 1),.int .i64 a] 159)).drew).grownBy wA (cs' x).ownBlock:=by rw [HVR.out]; exact HGA.out
       have hrA:wA.ownsRow (tb + 1) 159 2 (.slice A1 (nr + 1) q1) ((P' x).length + 1) (flat2 (P' x) ++ [.int .i64 ((h:Int) + 1),.int .i64 a]):=by rw [HR.out,HNR.out]; exact HOA.out
       have t5':=HT3.out.put hw hg' hrA hbl HM5.out (fun kl => rfl) HG5.out
       have hrg5:=((HRG.out.below hw).kept HGA.out (fun e => by obtain ⟨es,ck,hb⟩:=HBI1.out; exact own_not_map HROW.out hb e.symm) (fun e => by obtain ⟨s,sn,c0,hb⟩:=HBI2.out; exact own_not_iter HROW.out hb e.symm)).kept HG5.out (fun e => by injection e with e; omega) (fun e => by injection e with e; exact HSBI.out e.symm)
       have HT5:=Lib.hid t5'
       have HRG5:=Lib.hid hrg5
       clear hw hbl hg' hrA t5' hrg5 hput HM5 HG5 HGA HOA HLA tA6 tA5 ltA t5 t6 lt_t hlk hlk2
       go_wp2_with fail
       go_meet
       exact ⟨_,HT5.out,HRG5.out⟩
     case rest =>
      obtain ⟨v1,hT5,hRG5⟩:=hcut
      have HT5:=Lib.hid hT5
      have HRG5:=Lib.hid hRG5
      clear hT5 hRG5 t5 t6 lt_t hlk hlk2
      generalize wc = w5 at *
      obtain ⟨Af2,cf2,hvf⟩:=slice_of_own HT5.out.fr
      subst hvf
      obtain ⟨nf2,hnf2⟩:∃ z,F'.length = z:=⟨_,rfl⟩
      have HNF2:=Lib.hid hnf2
      have hfr5:=HT5.out.fr
      rw [hnf2] at hfr5 HT5
      have hf255:nf2 ≤ 100000:=by have:=HNF2.out; have:=HF255.out; omega
      have t7:w5.cell? ⟨tb,7,none⟩ = some (.slice Af2 nf2 cf2):=HT5.out.box.cell 7
      have lt5:=HT5.out.box.lt
      have HFR5:=Lib.hid hfr5
      obtain ⟨j0,hj0,hy0,hy1,hy2⟩:=info_parts infoIM
      have hlit:=Sl.of_own (own_lit w5 0 3 1 1 #[.int .i64 x] (Nat.zero_le _) rfl (by unfold maxLen; omega))
      clear hfr5 hnf2
      go_wp2_with (at_builtin; refine wpList_append_lst _ rfl (.tmp 66) (.tmp 68) 44 rfl (tb + 1) 3 j0 _ 1 8 Tryz.underlying44 hj0 hy0 hy1 hy2 rfl (by decide) (.slice Af2 nf2 cf2) nf2 (F'.map (Value.int .i64)) rfl (HFR5.out.alloc _) _ _ 1 1 [.int .i64 x] rfl hlit.lst (by simp [Value.oneCell']) (by unfold maxLen; omega) (by omega) (by simp; omega) ?_; intro v7 w7 hown7 hg7 hl7; obtain ⟨A7,q7,rfl⟩:=slice_of_own hown7; have hb7:=Blok.over HT5.out.box hg7 (fun e => by have:=(HFR5.out.lt _ e).1; omega) (by (repeat (first | exact Below.refl _ _ | refine Below.alloc ?_ (by first | omega | (simp; done) | (simp; omega)) _ | refine Below.setCell ?_ (by first | omega | (simp; done) | (simp; omega)) _ | refine Below.drew ?_))); have f7:=hb7.free 7; have x7:w7.cell? ⟨tb,7,none⟩ = some (.slice Af2 nf2 cf2):=hb7.cell 7; have lt7:=hb7.lt; clear hb7; have HO7:=Lib.hid hown7; have HG7:=Lib.hid hg7; have HL7:=Lib.hid hl7; clear hown7 hg7 hl7)
      have hw7:Below w5.heap.size w5 (w5.alloc (.cells #[.int .i64 x] 3)):=by (repeat (first | exact Below.refl _ _ | refine Below.alloc ?_ (by first | omega | (simp; done) | (simp; omega)) _ | refine Below.setCell ?_ (by first | omega | (simp; done) | (simp; omega)) _ | refine Below.drew ?_))
      have t8:=HT5.out.fresh (x:=x) hw7 HG7.out (by rw [HNF2.out]; exact HO7.out) (by
       rcases HL7.out with e | e
       ·exact .inl e
       ·exact .inr ⟨_,hw7.size,e⟩)
      have hrg8:=((HRG5.out.below hw7).kept HG7.out (fun e => by obtain ⟨⟨es,ck,hb⟩,_⟩:=HRG5.out.blocks; exact own_not_map HFR5.out hb e.symm) (fun e => by obtain ⟨_,s,sn,c0,hb⟩:=HRG5.out.blocks; exact own_not_iter HFR5.out hb e.symm)).keptS (Kept.set (S:=fun k => k = tb) (Kept.refl _ _) (fun _ => rfl) 7 (.slice A7 (nf2 + 1) q7)) (by omega) (by omega)
      have HT8:=Lib.hid t8
      have HRG8:=Lib.hid hrg8
      clear t8 hrg8 hw7 HG7 HO7 HL7 f7 x7 lt7 t7 lt5 hlit HT5 HRG5 HFR5
      go_roundw
      case rel => exact ⟨_,cnt1,nm' + 1,_,_,.slice A7 (nf2 + 1) q7,F' ++ [x],HRG8.out,HT8.out,by have h:=HHN.out; exact h,by show nm' + 1 = nm + (F' ++ [x]).length; rw [List.length_append,HN.out]; simp; omega⟩
      case measure => rw [HRG8.out.left_eq,HLE.out]; exact HCNT.out
set_option maxHeartbeats 4000000 in
set_option maxRecDepth 100000 in
theorem dfewG_any {wg:World} {gk:Nat} {w0 w:World} {tb:Nat} {A:Option Addr} {n c:Nat} {l:List Ed} {q by_ size:Int} {sh:List Int} (t:TabHG wg gk w0 w tb A n c l q by_ size sh 0) (hd:l.length = n) (hn:n ≤ 1000) (hre:rightE l = true) (hq:1 ≤ q ∧ q ≤ 255) (h0:0 ≤ by_) (hb:by_ ≤ 1099511627776) (x now:Int) (hx:(Lit.int .i64 x).wf = true) (o:Option Nat) (ho:IsFew l size (opn sh q) q by_ x now o) (ov:Int) (ob:Bool) (hov:((o.getD 0:Nat):Int) = ov) (hob:o.isSome = ob) :
  Calls Tryz.prog 68 #[.pointer (some ⟨tb,0,none⟩),.int .i64 x,.int .i64 now] w fun e w' => e = .returned (.tuple #[.int .i64 ov,.bool ob]) ∧ ∃ h',h' ≤ n + 1 ∧ (∀ k,o = some k → h' = k) ∧ TabHG wg gk w0 w' tb A n c l q by_ size sh h':=by
 have HD:=Lib.hid hd
 have HRE:=Lib.hid hre
 have HO:=Lib.hid ho
 have HOV:=Lib.hid hov
 have HOB:=Lib.hid hob
 have HT0:=Lib.hid t
 clear hd hre ho hov hob t
 go_enter Tryz.func68,Tryz.ntmps68
 go_wp2_with fail
 go_loopg [8] (n + 1) (fun g sv wr => ∃ h:Nat,TabHG wg gk w0 wr tb A n c l q by_ size sh h ∧ h ≤ n ∧ n + 1 - h ≤ g ∧ Hid (∀ k,k < h → ∀ t,lateL l size (opn sh q) q by_ k x = some t → t < now))
 case atStart => exact ⟨0,HT0.out,by omega,by omega,fun k hk => by omega⟩
 case round =>
  clear HT0
  obtain ⟨h,tt,hh,hg,HN⟩:=hrel
  obtain ⟨u,hu⟩:∃ z,(lateL l size (opn sh q) q by_ h x).getD 0 = z:=⟨_,rfl⟩
  obtain ⟨ok,hok⟩:∃ z,(lateL l size (opn sh q) q by_ h x).isSome = z:=⟨_,rfl⟩
  have HU:=Lib.hid hu
  have HK:=Lib.hid hok
  have HTT:=Lib.hid tt
  have t5:wr.cell? ⟨tb,5,none⟩ = some (.int .i64 (h:Int)):=by obtain ⟨_,_,_,_,_,_,_,_,_,_,_,ht,_⟩:=tt; exact ht.box.cell 5
  have lt_t:tb < wr.heap.size:=by obtain ⟨_,_,_,_,_,_,_,_,_,_,_,ht,_⟩:=tt; exact ht.box.lt
  clear hu hok tt
  go_wp2_with fail
  clear t5 lt_t
  refine (dat_any HTT.out.tab (by omega) x h (Nat.le_refl _) hx u ok HU.out HK.out).mono ?_
  rintro e w2 ⟨rfl,hb2⟩
  have HT2:=Lib.hid (HTT.out.below hb2)
  have t5:w2.cell? ⟨tb,5,none⟩ = some (.int .i64 (h:Int)):=by obtain ⟨_,_,_,_,_,_,_,_,_,_,_,ht,_⟩:=HT2.out; exact ht.box.cell 5
  have lt_t:tb < w2.heap.size:=by obtain ⟨_,_,_,_,_,_,_,_,_,_,_,ht,_⟩:=HT2.out; exact ht.box.lt
  clear hb2 HTT
  by_cases hin:ok = true ∧ now ≤ u
  ·obtain ⟨rfl,hnu⟩:=hin
   have hL:lateL l size (opn sh q) q by_ h x = some u:=by
    have h1:=HU.out
    have h2:=HK.out
    cases hc:lateL l size (opn sh q) q by_ h x with
    | none => rw [hc] at h2; cases h2
    | some z => rw [hc] at h1; rw [← h1]; rfl
   have he:o = some h:=few_one HO.out ⟨⟨u,hL,hnu⟩,HN.out⟩
   have h1:ov = (h:Int):=by rw [← HOV.out,he]; rfl
   have h2:ob = true:=by rw [← HOB.out,he]; rfl
   subst h1 h2
   have g1:decide (now ≤ u) = true:=decide_eq_true hnu
   have HE:=Lib.hid he
   clear hL he hnu
   go_wp2_with fail
   exact bodyPost_ret (v:=.tuple #[.int .i64 (h:Int),.bool true]) (by simp [results,Tryz.results68,go_sem]) rfl ⟨rfl,h,by omega,(fun k hk => by rw [HE.out] at hk; injection hk),HT2.out⟩
  ·have hno:∀ t,lateL l size (opn sh q) q by_ h x = some t → t < now:=fun t ht => by
    have h1:=HU.out
    have h2:=HK.out
    rw [ht] at h1 h2
    have h3:t = u:=h1
    rcases not_both hin with e | ⟨_,e⟩
    ·rw [e] at h2; cases h2
    ·omega
   obtain ⟨b,hbq⟩:=bool_iff (lateL l size (opn sh q) q by_ (h + 1) = lateL l size (opn sh q) q by_ h)
   have HBQ:=Lib.hid hbq
   have HN2:Hid (∀ k,k < h + 1 → ∀ t,lateL l size (opn sh q) q by_ k x = some t → t < now):=fun k hk t ht => by
    by_cases e:k = h
    ·subst e; exact hno t ht
    ·exact HN.out k (by omega) t ht
   have hc:=not_both hin
   clear hin hno hbq
   have hmore:=dmoreG_any HT2.out (by omega) HD.out hn HRE.out hq b HBQ.out
   have HMORE:=Lib.hid hmore
   clear hmore
   rcases hc with rfl | ⟨rfl,hnu⟩
   ·skip
    go_wp2_with fail
    refine HMORE.out.mono ?_
    rintro e w3 ⟨rfl,ht3⟩
    have HT3:=Lib.hid ht3
    clear ht3 t5 lt_t
    cases b with
    | false =>
     have hst:=HBQ.out.1 rfl
     have he:o = none:=few_one HO.out (fun k t ht => by
      rcases Nat.lt_or_ge k (h + 1) with e | e
      ·exact HN2.out k e t ht
      ·rw [lateL_stop hst (k:=k) (by omega)] at ht
       exact HN2.out h (by omega) t ht)
     have h1:ov = 0:=by rw [← HOV.out,he]; rfl
     have h2:ob = false:=by rw [← HOB.out,he]; rfl
     subst h1 h2
     have HE:=Lib.hid he
     clear hst he
     go_wp2_with fail
     exact bodyPost_ret (v:=.tuple #[.int .i64 0,.bool false]) (by simp [results,Tryz.results68,go_sem]) rfl ⟨rfl,h + 1,by omega,(fun k hk => by rw [HE.out] at hk; cases hk),HT3.out⟩
    | true =>
     have hlt:h < n:=by
      rcases Nat.lt_or_ge h n with e | e
      ·exact e
      ·have:=HBQ.out.2 (lateL_same hb h0 (by rw [HD.out]; omega) (by rw [HD.out]; exact e))
       cases this
     go_wp2_with fail
     go_roundg (gk - 1)
     case measure => omega
     case rel => exact ⟨h + 1,HT3.out,by omega,by omega,HN2⟩
   ·have g1:decide (now ≤ u) = false:=decide_eq_false hnu
    clear hnu
    go_wp2_with fail
    refine HMORE.out.mono ?_
    rintro e w3 ⟨rfl,ht3⟩
    have HT3:=Lib.hid ht3
    clear ht3 t5 lt_t
    cases b with
    | false =>
     have hst:=HBQ.out.1 rfl
     have he:o = none:=few_one HO.out (fun k t ht => by
      rcases Nat.lt_or_ge k (h + 1) with e | e
      ·exact HN2.out k e t ht
      ·rw [lateL_stop hst (k:=k) (by omega)] at ht
       exact HN2.out h (by omega) t ht)
     have h1:ov = 0:=by rw [← HOV.out,he]; rfl
     have h2:ob = false:=by rw [← HOB.out,he]; rfl
     subst h1 h2
     have HE:=Lib.hid he
     clear hst he
     go_wp2_with fail
     exact bodyPost_ret (v:=.tuple #[.int .i64 0,.bool false]) (by simp [results,Tryz.results68,go_sem]) rfl ⟨rfl,h + 1,by omega,(fun k hk => by rw [HE.out] at hk; cases hk),HT3.out⟩
    | true =>
     have hlt:h < n:=by
      rcases Nat.lt_or_ge h n with e | e
      ·exact e
      ·have:=HBQ.out.2 (lateL_same hb h0 (by rw [HD.out]; omega) (by rw [HD.out]; exact e))
       cases this
     go_wp2_with fail
     go_roundg (gk - 1)
     case measure => omega
     case rel => exact ⟨h + 1,HT3.out,by omega,by omega,HN2⟩
end Go.Proofs.YtodcoockhkghdaaGreat
